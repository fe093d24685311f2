import PyProof.Rows.All
import Wide.All
import OpenK.AllK
import Wide.FinOn
import Lean
import PyProof.EqAt
import PyProof.EqKinds
import PyProof.TupleCall
import PyProof.StrLawsIn
import KE.KTryMore
import PyProof.ListRange
import PyProof.SetKind
import PyProof.CollectWalk
import PyProof.Rows.SetFrom
import PyProof.Rows.SortStr
import PyProof.Rows.SortWalk
import PyProof.FactsAll.set_1
import KE.KIntText
import PyProof.RulesTry
import PyProof.StrBlock2
import PyProof.StrCalls
import PyProof.StrCalls6
import PyProof.PureStr
import PyProof.Rows.StrRules
import PyProof.StrLawsTight
import PyProof.StrLawsReplace
import PyProof.Rows.StrItems
import PyProof.Rows.StrWeight2
import PyProof.Rows.StrLawsPart
import PyProof.Rows.StrFirst
import PyProof.RulesTry
import PyProof.ZipIter
import KE.KDictOf
import PyProof.Draws
import PyProof.EnumMake
import PyProof.Rows.EnumRows
import PySem.Challenge.RW_shrinkhouse_k14_no_faults
set_option autoImplicit false
set_option Elab.async false
set_option linter.all false
set_option maxRecDepth 100000
set_option maxHeartbeats 4000000
namespace L2
open PySem PySem.Spec PyProof.Rows
abbrev Key := Sum Int Str
def keyIs : Key → Value → Bool
  | .inl k, v => Value.isInt k v
  | .inr x, v => Value.isStrOf x v
def keyH (w : World) : Key → Int
  | .inl k => hashInt k
  | .inr x => hashStr w x
theorem keyIs_shape : ∀ {k : Key} {v : Value}, keyIs k v = true → (∃ i t, k = Sum.inl i ∧ v = Value.int i t) ∨ (∃ x t, k = Sum.inr x ∧ v = Value.str x t)
  | .inl i, v, h => by
    obtain ⟨t, e⟩ := Value.isInt_shape (k := i) (v := v) h
    exact .inl ⟨i, t, rfl, e⟩
  | .inr x, v, h => by
    obtain ⟨t, e⟩ := Value.isStrOf_shape (x := x) (v := v) h
    exact .inr ⟨x, t, rfl, e⟩
theorem key_ll (a b : Int) : decide ((Sum.inl a : Key) = Sum.inl b) = (a == b) := by
  by_cases e : a = b
  · subst e; simp
  · have h : ¬ (Sum.inl a : Key) = Sum.inl b := fun q => e (Sum.inl.inj q)
    rw [decide_eq_false h]
    exact (beq_eq_false_iff_ne.mpr e).symm
theorem key_rr (a b : Str) : decide ((Sum.inr a : Key) = Sum.inr b) = decide (a = b) := by
  by_cases e : a = b
  · subst e; simp
  · have h : ¬ (Sum.inr a : Key) = Sum.inr b := fun q => e (Sum.inr.inj q)
    rw [decide_eq_false h, decide_eq_false e]
theorem key_lr (a : Int) (b : Str) : decide ((Sum.inl a : Key) = Sum.inr b) = false := decide_eq_false (fun q => nomatch q)
theorem key_rl (a : Str) (b : Int) : decide ((Sum.inr a : Key) = Sum.inl b) = false := decide_eq_false (fun q => nomatch q)
def mixKind (prog : Program) (w : World) : PySem.KeyKind prog w Key where
  is := keyIs
  hash := keyH w
  inj := fun v a b ha hb => by
    rcases keyIs_shape ha with ⟨i, t, rfl, rfl⟩ | ⟨x, t, rfl, rfl⟩
    · rcases keyIs_shape hb with ⟨j, u, rfl, e⟩ | ⟨y, u, rfl, e⟩
      · injection e with e1 _; rw [e1]
      · exact nomatch e
    · rcases keyIs_shape hb with ⟨j, u, rfl, e⟩ | ⟨y, u, rfl, e⟩
      · exact nomatch e
      · injection e with e1 _; rw [e1]
  byValue := fun k v h => by
    rcases keyIs_shape h with ⟨i, t, rfl, rfl⟩ | ⟨x, t, rfl, rfl⟩ <;> rfl
  pyHash := fun hv h => by
    rcases keyIs_shape hv with ⟨i, t, rfl, rfl⟩ | ⟨x, t, rfl, rfl⟩
    · exact wpAny_pyHash_int h
    · exact wpAny_pyHash_str h
  eqBool := fun hu hv h => by
    rcases keyIs_shape hu with ⟨i, t, rfl, rfl⟩ | ⟨x, t, rfl, rfl⟩
    · rcases keyIs_shape hv with ⟨j, u, rfl, rfl⟩ | ⟨y, u, rfl, rfl⟩
      · rw [key_ll] at h; exact wpAny_eqBool_int h
      · rw [key_lr] at h; exact SeqAt.EqAt.int_str i t y u _ _ _ _ h
    · rcases keyIs_shape hv with ⟨j, u, rfl, rfl⟩ | ⟨y, u, rfl, rfl⟩
      · rw [key_rl] at h; exact SeqAt.EqAt.str_int x t j u _ _ _ _ h
      · rw [key_rr] at h; exact wpAny_eqBool_str h
  «strs» := fun k x t v h => by
    rcases keyIs_shape h with ⟨i, u, rfl, e⟩ | ⟨y, u, rfl, e⟩
    · exact nomatch e
    · injection e with e1 _
      subst e1
      cases v <;> rfl
end L2
namespace L2
open PySem PySem.Spec PyProof.Rows
inductive V where
  | non | bl (b : Bool) | int (i : Int) | str (x : Str) | byt (b : Array UInt8) | flt (b : UInt64) | ref (a : Addr) | ty (n : String)
  deriving DecidableEq
def RelV : V → Value → Prop
  | .non, u => u = Value.none
  | .bl b, u => u = Value.bool b
  | .int i, u => ∃ t, u = Value.int i t
  | .str x, u => ∃ t, u = Value.str x t
  | .byt b, u => ∃ t, u = Value.bytes b t
  | .flt b, u => ∃ t, u = Value.float b t
  | .ref a, u => u = Value.ref a
  | .ty n, u => u = Value.type n
abbrev Vals : List V → List Value → Prop := Paired RelV
theorem Vals.length {xs : List V} {us : List Value} (r : Vals xs us) : xs.length = us.length := Paired.length r
theorem Vals.get : ∀ {xs : List V} {us : List Value} {i : Nat} {x : V}, Vals xs us → xs[i]? = some x → ∃ u, us[i]? = some u ∧ RelV x u
  | _, _, _, _, .nil, e => by simp at e
  | _, _, 0, _, .cons r _, e => by simp at e; subst e; exact ⟨_, rfl, r⟩
  | _, _, i + 1, x, .cons _ t, e => by
    obtain ⟨u, h1, h2⟩ := Vals.get (i := i) (x := x) t (by simpa using e)
    exact ⟨u, by simpa using h1, h2⟩
theorem Vals.set {x : V} {u : Value} (r : RelV x u) : ∀ {xs : List V} {us : List Value} (i : Nat), Vals xs us → Vals (xs.set i x) (us.set i u)
  | _, _, _, .nil => .nil
  | _, _, 0, .cons _ t => .cons r t
  | _, _, i + 1, .cons q t => .cons q (Vals.set r i t)
theorem Vals.append : ∀ {xs ys : List V} {us ws : List Value}, Vals xs us → Vals ys ws → Vals (xs ++ ys) (us ++ ws)
  | _, _, _, _, .nil, s => s
  | _, _, _, _, .cons r t, s => .cons r (Vals.append t s)
theorem Vals.take : ∀ {xs : List V} {us : List Value} (n : Nat), Vals xs us → Vals (xs.take n) (us.take n)
  | _, _, 0, _ => .nil
  | _, _, _ + 1, .nil => .nil
  | _, _, n + 1, .cons r t => .cons r (Vals.take n t)
theorem Vals.drop : ∀ {xs : List V} {us : List Value} (n : Nat), Vals xs us → Vals (xs.drop n) (us.drop n)
  | _, _, 0, r => r
  | _, _, _ + 1, .nil => .nil
  | _, _, n + 1, .cons _ t => Vals.drop n t
theorem Vals.none_of : ∀ {xs : List V} {us : List Value} {i : Nat}, Vals xs us → xs[i]? = none → us[i]? = none := fun {xs us i} r e => by
  have h1 := r.length
  have h2 : xs.length ≤ i := List.getElem?_eq_none_iff.mp e
  exact List.getElem?_eq_none_iff.mpr (by omega)
def RelO : Option V → Option Value → Prop
  | some v, some u => RelV v u
  | none, none => True
  | _, _ => False
def KV {κ : Type} : List (κ × V) → List (κ × Value) → Prop := Paired fun (p : κ × V) (q : κ × Value) => p.1 = q.1 ∧ RelV p.2 q.2
def kV : Key → V
  | .inl i => .int i
  | .inr x => .str x
inductive HO where
  
  | lst (xs : List V)
  
  | tup (xs : List V)
  
  | dK (kvs : List (Key × V)) | dT (kvs : List (List Key × V))
  
  | set (S : Int → Bool) (n : Nat)
  
  | ins (C dx : Addr) (fs : List (Str × V))
  
  | own (x : Addr)
  
  | xd (fs : List (Str × V))
  
  | met (f x : Addr)
  
  | rng (lo hi : Int)
  
  | frz (o : Obj) (u : HO)
  
  | tbl (ps : Array Value)
  
  | ext (φ : Heap → Prop)
abbrev Hp := Addr → Option HO
def upd (H : Hp) (a : Addr) (o : HO) : Hp := fun b => if b = a then some o else H b
theorem upd_same {H : Hp} {a : Addr} {o : HO} : upd H a o a = some o := by unfold upd; rw [if_pos rfl]
theorem upd_ne {H : Hp} {a b : Addr} {o : HO} (h : b ≠ a) : upd H a o b = H b := by unfold upd; rw [if_neg h]
theorem upd_upd {H : Hp} {a : Addr} {o u : HO} : upd (upd H a o) a u = upd H a u := by
  funext b; unfold upd; split <;> rfl
theorem ne_of_none {H : Hp} {a b : Addr} {o : HO} (h : H a = some o) (h' : H b = none) : a ≠ b := by
  intro e; subst e; rw [h] at h'; cases h'
section
variable (P : Program) (w : World)
def ObjOk (H : Hp) (h : Heap) (a : Addr) : HO → Prop
  | .lst xs => xs.length ≤ sizeLine ∧ ∃ (its : List Value) (n : Nat), Vals xs its ∧ h.get? a = some { cls := .type "list", data := .seq its.toArray n }
  | .tup xs => xs.length ≤ sizeLine ∧ ∃ its : List Value, Vals xs its ∧ IsTup h a its.toArray
  | .dK kvs => kvs.length ≤ sizeLine ∧ (a == sysModules) = false ∧ ∃ vs, KV kvs vs ∧ h.DictOf (mixKind P w) a vs
  | .dT kvs => kvs.length ≤ sizeLine ∧ (a == sysModules) = false ∧ ∃ xs : List (List Key × Addr × Value),
      Paired (fun (p : List Key × V) (q : List Key × Addr × Value) => p.1 = q.1 ∧ H q.2.1 = some (.tup (p.1.map kV)) ∧ RelV p.2 q.2.2) kvs xs ∧
      ∃ o es ep, h.get? a = some o ∧ o.ExactDict ∧ o.data = .dict es ep ∧ es.toList = xs.map (entryOfKey (tupleKind (mixKind P w))) ∧ (xs.map (·.1)).Nodup
  | .set S n => h.SetOf (intKind P w) a S n
  | .ins C dx fs => H dx = some (.own a) ∧ fs.length ≤ 1000 ∧ dx ≠ a ∧ h.get? a = some (PySem.W.instObj C dx) ∧
      ∃ mA, h.Ns1 dx mA ∧ (∀ f, RelO (fs.lookup f) (mA f)) ∧ PySem.Within mA (fs.map (·.1))
  | .own _ => ∃ o, h.get? a = some o
  | .xd fs => ∃ mA, h.Ns1 a mA ∧ ∀ f, RelO (fs.lookup f) (mA f)
  | .rng lo hi => ∃ t u v, h.get? a = some { cls := .type "range", data := .fields #[.int lo t, .int hi u, .int 1 v] }
  | .frz o u => h.get? a = some o ∧ ObjOk H h a u
  | .tbl ps => h.get? a = some { cls := .none, data := .fields ps }
  | .met f x => h.get? a = some (PySem.W.methodObj (.ref f) (.ref x))
  | .ext φ => φ h ∧ (∃ o, h.get? a = some o) ∧ ∀ h1 h2 : Heap, φ h1 → (∀ o, h1.get? a = some o → h2.get? a = some o) → φ h2
def HOk (H : Hp) (h : Heap) : Prop := ∀ a o, H a = some o → ObjOk P w H h a o
end
section
variable {P : Program} {w : World} {H H' : Hp} {h h' : Heap} {a : Addr} {o : HO}
theorem ObjOk.lt (x : ObjOk P w H h a o) : a < h.objs.size := by
  cases o with
  | lst xs => obtain ⟨_, _, _, _, e⟩ := x; exact Heap.lt_size e
  | tup xs => obtain ⟨_, _, _, p⟩ := x; exact p.lt
  | dK kvs => obtain ⟨_, _, _, _, o, _, _, e, _⟩ := x; exact Heap.lt_size e
  | dT kvs => obtain ⟨_, _, _, _, o, _, _, e, _⟩ := x; exact Heap.lt_size e
  | set S n => obtain ⟨o, _, _, _, e, _⟩ := x; exact Heap.lt_size e
  | ins C dx fs => obtain ⟨_, _, _, e, _⟩ := x; exact Heap.lt_size e
  | own y => obtain ⟨_, e⟩ := x; exact Heap.lt_size e
  | xd fs => obtain ⟨_, ⟨_, _, _, e, _⟩, _⟩ := x; exact Heap.lt_size e
  | rng lo hi => obtain ⟨_, _, _, e⟩ := x; exact Heap.lt_size e
  | frz ob u => obtain ⟨e, _⟩ := x; exact Heap.lt_size e
  | tbl ps => exact Heap.lt_size (show h.get? a = some _ from x)
  | met f y => exact Heap.lt_size (show h.get? a = some _ from x)
  | ext φ => obtain ⟨_, ⟨_, e⟩, _⟩ := x; exact Heap.lt_size e
theorem Paired.mapP {α β : Type} {F G : α → β → Prop} : ∀ {l₁ : List α} {l₂ : List β}, Paired F l₁ l₂ → (∀ a b, F a b → G a b) → Paired G l₁ l₂
  | _, _, .nil, _ => .nil
  | _, _, .cons r t, f => .cons (f _ _ r) (Paired.mapP t f)
theorem ObjOk.stay (x : ObjOk P w H h a o) (k : ∀ b u, (b = a ∨ H b = some (.own a)) → h.get? b = some u → h'.get? b = some u)
    (ho : ∀ b, H b = some (.own a) → H' b = some (.own a)) (ht : ∀ b xs, H b = some (.tup xs) → H' b = some (.tup xs)) : ObjOk P w H' h' a o := by
  induction o with
  | lst xs => obtain ⟨z, its, n, r, e⟩ := x; exact ⟨z, its, n, r, k _ _ (.inl rfl) e⟩
  | tup xs => obtain ⟨z, its, r, ob, e, c⟩ := x; exact ⟨z, its, r, ob, k _ _ (.inl rfl) e, c⟩
  | dK kvs => obtain ⟨z, y, vs, r, ob, es, ep, e, c⟩ := x; exact ⟨z, y, vs, r, ob, es, ep, k _ _ (.inl rfl) e, c⟩
  | dT kvs =>
    obtain ⟨z, y, xs, r, ob, es, ep, e, c⟩ := x
    exact ⟨z, y, xs, Paired.mapP r fun p q z => ⟨z.1, ht _ _ z.2.1, z.2.2⟩, ob, es, ep, k _ _ (.inl rfl) e, c⟩
  | set S n => obtain ⟨ob, es, ep, t, e, c⟩ := x; exact ⟨ob, es, ep, t, k _ _ (.inl rfl) e, c⟩
  | ins C dx fs =>
    obtain ⟨d, z, ne, e, mA, ⟨od, es, ep, e2, c⟩, r⟩ := x
    exact ⟨ho _ d, z, ne, k _ _ (.inl rfl) e, mA, ⟨od, es, ep, k _ _ (.inr d) e2, c⟩, r⟩
  | own y => obtain ⟨ob, e⟩ := x; exact ⟨ob, k _ _ (.inl rfl) e⟩
  | xd fs => obtain ⟨mA, ⟨od, es, ep, e, c⟩, r⟩ := x; exact ⟨mA, ⟨od, es, ep, k _ _ (.inl rfl) e, c⟩, r⟩
  | rng lo hi => obtain ⟨t, u, v, e⟩ := x; exact ⟨t, u, v, k _ _ (.inl rfl) e⟩
  | frz ob u ih => obtain ⟨e, q⟩ := x; exact ⟨k _ _ (.inl rfl) e, ih q⟩
  | tbl ps =>
    have e : h.get? a = some { cls := .none, data := .fields ps } := x
    show h'.get? a = some { cls := .none, data := .fields ps }
    exact k a _ (.inl rfl) e
  | met f y =>
    have e : h.get? a = some (PySem.W.methodObj (.ref f) (.ref y)) := x
    show h'.get? a = some (PySem.W.methodObj (.ref f) (.ref y))
    exact k a _ (.inl rfl) e
  | ext φ => obtain ⟨p, ⟨o, e⟩, st⟩ := x; exact ⟨st _ _ p fun o q => k _ _ (.inl rfl) q, ⟨o, k _ _ (.inl rfl) e⟩, st⟩
theorem HOk.lt (x : HOk P w H h) (e : H a = some o) : a < h.objs.size := (x a o e).lt
theorem HOk.fresh (x : HOk P w H h) (e : h.objs.size ≤ a) : H a = none := by
  cases q : H a with
  | none => rfl
  | some u => exact absurd (Nat.lt_of_lt_of_le (x.lt q) e) (Nat.lt_irrefl _)
theorem HOk.kept (x : HOk P w H h) (k : ∀ b u, h.get? b = some u → h'.get? b = some u) : HOk P w H h' := fun a o e =>
  (x a o e).stay (fun b u _ q => k b u q) (fun _ q => q) fun _ _ q => q
theorem HOk.laid (x : HOk P w H h) (k : ∀ b u, h.get? b = some u → h'.get? b = some u) (hp : h.objs.size ≤ a) (new : ObjOk P w (upd H a o) h' a o) : HOk P w (upd H a o) h' := fun b u e => by
  have hn := x.fresh hp
  by_cases hb : b = a
  · subst hb; rw [upd_same] at e; cases e; exact new
  · rw [upd_ne hb] at e
    exact (x b u e).stay (fun c v _ q => k c v q) (fun c q => by rw [upd_ne (ne_of_none q hn)]; exact q) fun c xs q => by rw [upd_ne (ne_of_none q hn)]; exact q
end
def Rd (H : Hp) (a : Addr) (u : HO) : Prop := H a = some u ∨ ∃ o, H a = some (.frz o u)
theorem Rd.of {H : Hp} {a : Addr} {u : HO} (h : H a = some u) : Rd H a u := .inl h
theorem Rd.ok {P : Program} {w : World} {H : Hp} {h : Heap} {a : Addr} {u : HO} (r : Rd H a u) (x : HOk P w H h) : ObjOk P w H h a u := by
  rcases r with r | ⟨o, r⟩
  · exact x a u r
  · obtain ⟨_, q⟩ := x a _ r
    exact q
def Mut : Option HO → Prop
  | some (.lst _) => True
  | some (.dK _) => True
  | some (.dT _) => True
  | some (.set _ _) => True
  | some (.ins _ _ _) => True
  | some (.ext _) => True
  | _ => False
section
variable {P : Program} {w : World} {H : Hp} {h h' : Heap} {x e : Addr} {o' : HO}
theorem HOk.write (ok : HOk P w H h) (mu : Mut (H x)) (he : e = x ∨ H e = some (.own x)) (k : ∀ b u, b ≠ e → h.get? b = some u → h'.get? b = some u) (heo : ∃ u, h'.get? e = some u)
    (new : ObjOk P w (upd H x o') h' x o') : HOk P w (upd H x o') h' := fun b u q => by
  have nown : ∀ c y, H c = some (.own y) → c ≠ x := fun c y r z => by subst z; rw [r] at mu; exact mu
  have ntup : ∀ c xs, H c = some (.tup xs) → c ≠ x := fun c xs r z => by subst z; rw [r] at mu; exact mu
  by_cases hb : b = x
  · subst hb; rw [upd_same] at q; cases q; exact new
  · rw [upd_ne hb] at q
    by_cases hbe : b = e
    · have q' : H b = some (.own x) := by
        rcases he with z | z
        · exact absurd (hbe.trans z) hb
        · rw [hbe]; exact z
      rw [q] at q'; cases q'
      obtain ⟨v, hv⟩ := heo
      exact ⟨v, by rw [hbe]; exact hv⟩
    · refine (ok b u q).stay (fun c v hc r => k c v ?_ r) (fun c r => by rw [upd_ne (nown c b r)]; exact r) fun c xs r => by rw [upd_ne (ntup c xs r)]; exact r
      rcases hc with rfl | hc
      · exact hbe
      · rintro rfl
        rcases he with z | z
        · exact nown c b hc z
        · rw [hc] at z; cases z; exact hb rfl
end
structure Un (fs ex : List Addr) (H H' : Hp) (h h' : Heap) : Prop where
  keep : ∀ b o, h.get? b = some o → H b = none → b ∉ fs → b ∉ ex → h'.get? b = some o
  slot : ∀ b o, h.get? b = some o → H b = none → b ∈ fs → b ∉ ex → ∃ sl, h'.get? b = some { o with slots := sl }
  free : ∀ b o, h.get? b = some o → H b = none → b ∉ ex → H' b = none
  there : ∀ b o, h.get? b = some o → b ∉ ex → ∃ o', h'.get? b = some o'
  tups : ∀ b xs, H b = some (.tup xs) → H' b = some (.tup xs)
  frzs : ∀ b o u, H b = some (.frz o u) → H' b = some (.frz o u)
  tbls : ∀ b ps, H b = some (.tbl ps) → ∃ more, H' b = some (.tbl (ps ++ more))
section
variable {fs fs' ex ex' : List Addr} {H H1 H2 : Hp} {h h1 h2 h' : Heap} {a x e : Addr} {o : HO}
theorem Un.any (u : Un fs ex H H1 h h1) {b : Addr} {ob : Obj} (q : h.get? b = some ob) (n : H b = none) (hx : b ∉ ex) : ∃ sl, h1.get? b = some { ob with slots := sl } := by
  by_cases hb : b ∈ fs
  · exact u.slot b ob q n hb hx
  · exact ⟨ob.slots, u.keep b ob q n hb hx⟩
theorem Un.trans (a : Un fs ex H H1 h h1) (b : Un fs ex H1 H2 h1 h2) : Un fs ex H H2 h h2 where
  keep := fun c ob q n hc hx => b.keep c ob (a.keep c ob q n hc hx) (a.free c ob q n hx) hc hx
  slot := fun c ob q n hc hx => by
    obtain ⟨sl, e1⟩ := a.slot c ob q n hc hx
    obtain ⟨sl', e2⟩ := b.slot c _ e1 (a.free c ob q n hx) hc hx
    exact ⟨sl', e2⟩
  free := fun c ob q n hx => by
    obtain ⟨o', e1⟩ := a.there c ob q hx
    exact b.free c o' e1 (a.free c ob q n hx) hx
  there := fun c ob q hx => by
    obtain ⟨o', e1⟩ := a.there c ob q hx
    exact b.there c o' e1 hx
  tups := fun c xs q => b.tups c xs (a.tups c xs q)
  frzs := fun c ob xs q => b.frzs c ob xs (a.frzs c ob xs q)
  tbls := fun c ps q => by
    obtain ⟨m1, e1⟩ := a.tbls c ps q
    obtain ⟨m2, e2⟩ := b.tbls c _ e1
    exact ⟨m1 ++ m2, by rw [e2, Array.append_assoc]⟩
theorem Un.kept (k : ∀ b u, h.get? b = some u → h'.get? b = some u) : Un fs ex H H h h' :=
  ⟨fun b ob q _ _ _ => k b ob q, fun b ob q _ _ _ => ⟨ob.slots, k b ob q⟩, fun _ _ _ n _ => n, fun b ob q _ => ⟨ob, k b ob q⟩, fun _ _ q => q, fun _ _ _ q => q, fun _ ps q => ⟨#[], by rw [q]; simp⟩⟩
theorem Un.refl : Un fs ex H H h h := Un.kept fun _ _ q => q
theorem Un.laid (k : ∀ b u, h.get? b = some u → h'.get? b = some u) (hp : h.objs.size ≤ a) (hn : H a = none) : Un fs ex H (upd H a o) h h' where
  keep := fun b u q _ _ _ => k b u q
  slot := fun b u q _ _ _ => ⟨u.slots, k b u q⟩
  free := fun b u q n _ => by rw [upd_ne (Nat.ne_of_lt (Nat.lt_of_lt_of_le (Heap.lt_size q) hp))]; exact n
  there := fun b u q _ => ⟨u, k b u q⟩
  tups := fun b xs q => by rw [upd_ne (ne_of_none q hn)]; exact q
  frzs := fun b u xs q => by rw [upd_ne (ne_of_none q hn)]; exact q
  tbls := fun b ps q => ⟨#[], by rw [upd_ne (ne_of_none q hn), q]; simp⟩
theorem Un.write (mu : Mut (H x)) (he : e = x ∨ H e = some (.own x)) (k : ∀ b u, b ≠ e → h.get? b = some u → h'.get? b = some u) (heo : ∃ u, h'.get? e = some u) : Un fs ex H (upd H x o) h h' := by
  have hx : ∀ b, H b = none → b ≠ x := fun b n z => by subst z; rw [n] at mu; exact mu
  have hb : ∀ b, H b = none → b ≠ e := fun b n z => by
    subst z
    rcases he with r | r
    · exact hx b n r
    · rw [n] at r; cases r
  have hm : ∀ b u, H b = some u → ¬ Mut (some u) → b ≠ x := fun b u q nm z => by subst z; rw [q] at mu; exact nm mu
  refine ⟨fun b u q n _ _ => k b u (hb b n) q, fun b u q n _ _ => ⟨u.slots, k b u (hb b n) q⟩, fun b u q n _ => by rw [upd_ne (hx b n)]; exact n, fun b u q _ => ?_,
    fun b xs q => by rw [upd_ne (hm b _ q fun z => z)]; exact q, fun b u xs q => by rw [upd_ne (hm b _ q fun z => z)]; exact q, fun b ps q => ⟨#[], by rw [upd_ne (hm b _ q fun z => z), q]; simp⟩⟩
  by_cases hbe : b = e
  · subst hbe; exact heo
  · exact ⟨u, k b u hbe q⟩
theorem Un.mono (u : Un fs ex H H1 h h1) (hs : ∀ b ∈ fs, b ∈ fs') (hx : ∀ b ∈ ex, b ∈ ex') : Un fs' ex' H H1 h h1 :=
  ⟨fun b ob q n hb he => u.keep b ob q n (fun z => hb (hs b z)) fun z => he (hx b z), fun _ _ q n _ he => u.any q n fun z => he (hx _ z), fun b ob q n he => u.free b ob q n fun z => he (hx b z), fun b ob q he => u.there b ob q fun z => he (hx b z), u.tups, u.frzs, u.tbls⟩
end
def trk (h : Heap) (H : Hp) : List Addr := (List.range h.objs.size).filter fun a => (H a).isSome
def hidT (h : Heap) (H : Hp) : Heap := PySem.W.hideAll h (trk h H)
theorem hidT_size (h : Heap) (H : Hp) : (hidT h H).objs.size = h.objs.size := PySem.W.hideAll_size _ _
theorem hidT_get {h : Heap} {H : Hp} {b : Addr} {o : Obj} (e : h.get? b = some o) (n : H b = none) : (hidT h H).get? b = some o :=
  PySem.W.hideAll_get _ e fun hm => by
    have q : (H b).isSome = true := (List.mem_filter.mp hm).2
    rw [n] at q; simp at q
theorem of_hidT {h : Heap} {H : Hp} {b : Addr} {o : Obj} (e : (hidT h H).get? b = some o) : h.get? b = some o ∧ H b = none := by
  have e' : h.get? b = some o := PySem.W.of_hideAll (trk h H) e
  refine ⟨e', ?_⟩
  cases q : H b with
  | none => rfl
  | some x =>
    have hm : b ∈ trk h H := List.mem_filter.mpr ⟨List.mem_range.mpr (Heap.lt_size e'), by simp [q]⟩
    have z : (hidT h H).get? b = none := PySem.W.hideAll_none (trk h H) hm
    rw [z] at e; cases e
def allNews (g h : Heap) (L : Addr) : List (Addr × Obj) := (List.range h.objs.size).filterMap fun a => if a = L ∨ (g.get? a).isSome = true then none else (h.get? a).map fun o => (a, o)
def rest (g h : Heap) (L d : Addr) : List (Addr × Obj) := (allNews g h L).filter fun p => decide (p.1 ≠ d)
end L2
namespace L2
open PySem PySem.Spec PyProof.Rows
structure Mod (K : PySem.W.Frag) (mg : Str → Option Value) (base : Heap) : Prop where
  kin : K.In base
  glob : base.Ns mainGlobals mg
  blt : ∃ mb, base.Ns builtinsNs mb ∧ ∀ x : Str, x ≠ "__name__" → mb x = bootBuiltins x
  nolimit : base.NoLimit
structure Cx where
  prog : Program
  w : World
  K : PySem.W.Frag
  mg : Str → Option Value
  base : Heap
  A : Around
  N : List Str
  s₀ : Shared
  H₀ : Hp
  env : Env
  outer : List Env
  stack : List Env
  ex : List Addr
  fn : Str → Bool
  calm : Bool
  pn : List (Addr × Obj)
  xe : Value → Shared → Prop
def frs (l : List Env) : List Addr := l.filterMap (·.frame)
abbrev Cx.fs (X : Cx) : List Addr := frs X.outer
def Vis (sc : Scope) (x : Str) : Prop := sc.names.lookup x = some .local ∨ sc.names.lookup x = some .cell ∨ sc.names.lookup x = some .free
def Loc (sc : Scope) (x : Str) : Prop := sc.names.lookup x = some .local ∨ sc.names.lookup x = some .cell
def Look (env : Env) (h : Heap) (m : Str → Option Value) (x : Str) (u : Value) : Prop :=
  (env.kindOf x = some .local ∧ m x = some u) ∨ ((env.kindOf x = some .cell ∨ env.kindOf x = some .free) ∧ ∃ c, env.cells.lookup x = some c ∧ h.IsCell c (some u))
structure Cx.Ok (X : Cx) : Prop where
  mod : Mod X.K X.mg X.base
  kind : X.env.scope.kind = .function
  glob : X.env.globals = mainGlobals
  blt : X.env.builtins = builtinsNs
  above : X.s₀.heap.objs.size ≤ X.env.locals
  inj : ∀ x y c, X.env.cells.lookup x = some c → X.env.cells.lookup y = some c → x = y
  has : ∀ x, (X.env.kindOf x = some .cell ∨ X.env.kindOf x = some .free) → ∃ c, X.env.cells.lookup x = some c
  cab : ∀ x c, X.fn x = true → X.env.cells.lookup x = some c → X.s₀.heap.objs.size ≤ c
  hd : X.calm = true → X.A.handled = none
  frames : X.A.frames = some X.stack
  stk : X.stack = X.outer ∨ (X.stack = X.env :: X.outer ∧ X.env.frame = some X.env.locals)
  exf : ∀ b ∈ X.ex, b ≠ X.env.locals ∧ ∀ x c, X.env.cells.lookup x = some c → c ≠ b
  bs : ∀ b o, X.base.get? b = some o → X.s₀.heap.get? b = some o ∧ X.H₀ b = none
  bsz : X.base.objs.size ≤ X.s₀.heap.objs.size
  noex : ∀ b o, X.base.get? b = some o → b ∉ X.ex
  exfs : ∀ b ∈ X.ex, b ∉ X.fs
  funs : X.s₀.heap.FunFrames X.base X.outer
  frf : ∀ b ∈ X.fs, X.H₀ b = none
structure Inv (X : Cx) (pins : List (Addr × Obj)) (σ : List (Option V)) (H : Hp) (s : Shared) : Prop where
  ok : X.Ok
  os : s.os = X.s₀.os
  bare : AllBare s.gens
  base : Un X.fs X.ex X.H₀ H X.s₀.heap s.heap
  loc : ∃ m, s.heap.Ns X.env.locals m ∧ ∀ (i : Nat) (x : Str) (v : V), X.N[i]? = some x → σ[i]? = some (some v) → Vis X.env.scope x → ∃ u, RelV v u ∧ Look X.env s.heap m x u
  cell : ∀ x c, X.env.cells.lookup x = some c → ∃ v, s.heap.IsCell c v
  free : H X.env.locals = none
  freeC : ∀ x c, X.env.cells.lookup x = some c → H c = none
  pin : ∀ p ∈ X.pn ++ pins, s.heap.get? p.1 = some p.2 ∧ H p.1 = none ∧ p.1 ≠ X.env.locals ∧ p.1 ∉ X.fs ∧ ∀ v, p.2.data ≠ .cell v
  hok : HOk X.prog X.w H s.heap
  len : σ.length = X.N.length
section
variable {X : Cx} {pins : List (Addr × Obj)} {σ : List (Option V)} {H H' : Hp} {s : Shared} {h' : Heap}
theorem Cx.Ok.nofr (ok : X.Ok) {b : Addr} {o : Obj} (e : X.base.get? b = some o) : b ∉ X.fs := fun hb => by
  have := (ok.funs.mem hb).1
  rw [e] at this; cases this
theorem Inv.bs (I : Inv X pins σ H s) : ∀ b o, X.base.get? b = some o → s.heap.get? b = some o ∧ H b = none := fun b o e =>
  ⟨I.base.keep b o (I.ok.bs b o e).1 (I.ok.bs b o e).2 (I.ok.nofr e) (I.ok.noex b o e), I.base.free b o (I.ok.bs b o e).1 (I.ok.bs b o e).2 (I.ok.noex b o e)⟩
theorem Inv.bk (I : Inv X pins σ H s) : ∀ b o, X.base.get? b = some o → s.heap.get? b = some o := fun b o e => (I.bs b o e).1
theorem Inv.mod (I : Inv X pins σ H s) : Mod X.K X.mg X.base := I.ok.mod
theorem Inv.kIn (I : Inv X pins σ H s) : X.K.In s.heap := I.ok.mod.kin.keeps I.bk
theorem Inv.nolimit (I : Inv X pins σ H s) : s.heap.NoLimit := I.ok.mod.nolimit.keeps I.bk
theorem Inv.fr (I : Inv X pins σ H s) : ∃ m, Fr X.base X.env.locals s.heap m :=
  let ⟨m, hn, _⟩ := I.loc
  ⟨m, hn, I.bk, Nat.le_trans I.ok.bsz I.ok.above⟩
theorem Inv.lt (I : Inv X pins σ H s) : X.env.locals < s.heap.objs.size := let ⟨_, hn, _⟩ := I.loc; hn.lt
theorem Inv.sz (I : Inv X pins σ H s) : X.s₀.heap.objs.size ≤ s.heap.objs.size := Nat.le_trans I.ok.above (Nat.le_of_lt I.lt)
theorem Inv.nofs (I : Inv X pins σ H s) {a : Addr} (h : s.heap.objs.size ≤ a) : a ∉ X.fs := fun hb => by
  obtain ⟨_, o, ho, _⟩ := I.ok.funs.mem hb
  exact absurd (Nat.lt_of_lt_of_le (Heap.lt_size ho) (Nat.le_trans I.sz h)) (Nat.lt_irrefl _)
theorem Inv.cne (I : Inv X pins σ H s) : ∀ x c, X.env.cells.lookup x = some c → c ≠ X.env.locals := fun x c e z => by
  obtain ⟨v, o, ho, hd⟩ := I.cell x c e
  obtain ⟨m, ⟨o', es, ep, ho', hd', _⟩, _⟩ := I.loc
  rw [z, ho'] at ho; cases ho; rw [hd'] at hd; cases hd
theorem Inv.funs (I : Inv X pins σ H s) : s.heap.FunFrames X.base X.outer := by
  have all : ∀ (l : List Env), (∀ b ∈ frs l, b ∈ X.fs) → X.s₀.heap.FunFrames X.base l → s.heap.FunFrames X.base l := by
    intro l
    induction l with
    | nil => intro _ _; trivial
    | cons env r ih =>
      intro hs hl
      obtain ⟨hk, ⟨L, o, hf, hn, ho, hd⟩, hr⟩ := hl
      have hL : L ∈ X.fs := hs L (by unfold frs; rw [List.filterMap_cons, hf]; exact List.mem_cons_self)
      obtain ⟨sl, e⟩ := I.base.slot L o ho (I.ok.frf L hL) hL fun z => I.ok.exfs L z hL
      exact ⟨hk, ⟨L, _, hf, hn, e, hd⟩, ih (fun b hb => hs b (by unfold frs; rw [List.filterMap_cons, hf]; exact List.mem_cons_of_mem _ hb)) hr⟩
  exact all X.outer (fun _ hb => hb) I.ok.funs
theorem Inv.stack (I : Inv X pins σ H s) : s.heap.FunFrames X.base X.stack := by
  rcases I.ok.stk with e | ⟨e, hf⟩
  · rw [e]; exact I.funs
  · rw [e]
    obtain ⟨m, hn, _⟩ := I.loc
    refine .cons (by rw [I.ok.kind]; decide) hf hn ?_ I.funs
    exact Heap.get?_none_of_le (Nat.le_trans I.ok.bsz I.ok.above)
theorem Inv.stkSub (I : Inv X pins σ H s) : ∀ b ∈ frs X.stack, b ∈ X.env.locals :: X.fs := fun b hb => by
  rcases I.ok.stk with e | ⟨e, hf⟩
  · rw [e] at hb; exact List.mem_cons_of_mem _ hb
  · rw [e] at hb
    unfold frs at hb
    rw [List.filterMap_cons, hf] at hb
    exact hb
theorem Inv.stkFree (I : Inv X pins σ H s) : ∀ b ∈ frs X.stack, H b = none := fun b hb => by
  rcases List.mem_cons.mp (I.stkSub b hb) with e | hb
  · rw [e]; exact I.free
  · obtain ⟨_, o, ho, _⟩ := I.ok.funs.mem hb
    exact I.base.free b o ho (I.ok.frf b hb) fun z => I.ok.exfs b z hb
theorem Inv.step {g' : Array GenState} {t' : Nat} {d' : Drawn} {ch : List Addr} (I : Inv X pins σ H s)
    (hch : ∀ b ∈ ch, (b ∈ X.ex ∨ X.s₀.heap.objs.size ≤ b) ∧ b ≠ X.env.locals ∧ (∀ x c, X.env.cells.lookup x = some c → c ≠ b) ∧ ∀ p ∈ X.pn ++ pins, p.1 ≠ b)
    (keep : ∀ b o, b ≠ X.env.locals → b ∉ X.fs → b ∉ ch → s.heap.get? b = some o → H b = none → h'.get? b = some o)
    (slot : ∀ b o, b ≠ X.env.locals → b ∈ X.fs → b ∉ ch → s.heap.get? b = some o → H b = none → ∃ sl, h'.get? b = some { o with slots := sl }) (free : ∀ b o, b ∉ ch → s.heap.get? b = some o → H b = none → H' b = none)
    (there : ∀ b o, b ∉ ch → s.heap.get? b = some o → ∃ o', h'.get? b = some o')
    (tups : ∀ b xs, H b = some (.tup xs) → H' b = some (.tup xs)) (frzs : ∀ b o u, H b = some (.frz o u) → H' b = some (.frz o u)) (tbls : ∀ b ps, H b = some (.tbl ps) → ∃ more, H' b = some (.tbl (ps ++ more)))
    (ns : ∀ m, s.heap.Ns X.env.locals m → h'.Ns X.env.locals m) (hok : HOk X.prog X.w H' h') (hg : AllBare g') :
    Inv X pins σ H' { s with heap := h', gens := g', drawn := d', toks := t' } := by
  have neL : ∀ b o, X.s₀.heap.get? b = some o → b ≠ X.env.locals := fun b o e => Nat.ne_of_lt (Nat.lt_of_lt_of_le (Heap.lt_size e) I.ok.above)
  have neC : ∀ b o, X.s₀.heap.get? b = some o → b ∉ X.ex → b ∉ ch := fun b o e hx hb => by
    rcases (hch b hb).1 with z | z
    · exact hx z
    · exact absurd (Nat.lt_of_lt_of_le (Heap.lt_size e) z) (Nat.lt_irrefl _)
  have cellK : ∀ x c, X.env.cells.lookup x = some c → ∀ v, s.heap.IsCell c v → h'.IsCell c v := fun x c e v ⟨o, ho, hd⟩ => by
    have nch : c ∉ ch := fun z => (hch c z).2.2.1 x c e rfl
    by_cases hc : c ∈ X.fs
    · obtain ⟨sl, q⟩ := slot c o (I.cne x c e) hc nch ho (I.freeC x c e)
      exact ⟨_, q, hd⟩
    · exact ⟨o, keep c o (I.cne x c e) hc nch ho (I.freeC x c e), hd⟩
  refine ⟨I.ok, I.os, hg, ⟨fun b o e n hb hx => ?_, fun b o e n hb hx => ?_, fun b o e n hx => ?_, fun b o e hx => ?_, fun b xs e => tups b xs (I.base.tups b xs e), fun b o xs e => frzs b o xs (I.base.frzs b o xs e), fun b ps e => ?_⟩, ?_, fun x c e => ?_, ?_, fun x c e => ?_, fun p hp => ?_, hok, I.len⟩
  · exact keep b o (neL b o e) hb (neC b o e hx) (I.base.keep b o e n hb hx) (I.base.free b o e n hx)
  · obtain ⟨sl, e1⟩ := I.base.slot b o e n hb hx
    obtain ⟨sl', e2⟩ := slot b _ (neL b o e) hb (neC b o e hx) e1 (I.base.free b o e n hx)
    exact ⟨sl', e2⟩
  · obtain ⟨o', e1⟩ := I.base.there b o e hx
    exact free b o' (neC b o e hx) e1 (I.base.free b o e n hx)
  · obtain ⟨o', e1⟩ := I.base.there b o e hx
    exact there b o' (neC b o e hx) e1
  · obtain ⟨m1, e1⟩ := I.base.tbls b ps e
    obtain ⟨m2, e2⟩ := tbls b _ e1
    exact ⟨m1 ++ m2, by rw [e2, Array.append_assoc]⟩
  · obtain ⟨m, hn, hl⟩ := I.loc
    refine ⟨m, ns m hn, fun i x v e1 e2 e3 => ?_⟩
    obtain ⟨u, r, l⟩ := hl i x v e1 e2 e3
    refine ⟨u, r, ?_⟩
    rcases l with l | ⟨k, c, e, z⟩
    · exact .inl l
    · exact .inr ⟨k, c, e, cellK x c e _ z⟩
  · obtain ⟨v, z⟩ := I.cell x c e
    exact ⟨v, cellK x c e v z⟩
  · obtain ⟨m, ⟨o, _, _, ho, _⟩, _⟩ := I.loc
    exact free _ o (fun z => (hch _ z).2.1 rfl) ho I.free
  · obtain ⟨v, o, ho, hd⟩ := I.cell x c e
    exact free c o (fun z => (hch c z).2.2.1 x c e rfl) ho (I.freeC x c e)
  · obtain ⟨e, n, ne, nf, d⟩ := I.pin p hp
    have nch : p.1 ∉ ch := fun z => (hch p.1 z).2.2.2 p hp rfl
    exact ⟨keep p.1 p.2 ne nf nch e n, free p.1 p.2 nch e n, ne, nf, d⟩
theorem Inv.un {t' : Nat} (I : Inv X pins σ H s) (u : Un X.fs [] H H' s.heap h') (hok : HOk X.prog X.w H' h') : Inv X pins σ H' { s with heap := h', toks := t' } := by
  obtain ⟨m, ⟨o, es, ep, ho, r⟩, _⟩ := id I.loc
  obtain ⟨sl, hL⟩ := u.any ho I.free (by simp)
  exact I.step (g' := s.gens) (d' := s.drawn) (ch := []) (fun _ z => nomatch z) (fun b o _ hb _ e n => u.keep b o e n hb (by simp)) (fun b o _ hb _ e n => u.slot b o e n hb (by simp)) (fun b o _ e n => u.free b o e n (by simp)) (fun b o _ e => u.there b o e (by simp)) u.tups u.frzs u.tbls (fun m' hm => by
    obtain ⟨o', es', ep', ho', r'⟩ := hm
    rw [ho] at ho'; cases ho'
    exact ⟨_, es', ep', hL, r'⟩) hok I.bare
theorem Inv.call {g' : Array GenState} {t' : Nat} {d' : Drawn} {ch : List Addr} (I : Inv X pins σ H s) (u : Un (frs X.stack) ch H H' s.heap h') (hok : HOk X.prog X.w H' h') (hg : AllBare g')
    (hch : ∀ b ∈ ch, (b ∈ X.ex ∨ X.s₀.heap.objs.size ≤ b) ∧ b ≠ X.env.locals ∧ (∀ x c, X.env.cells.lookup x = some c → c ≠ b) ∧ ∀ p ∈ X.pn ++ pins, p.1 ≠ b) :
    Inv X pins σ H' { s with heap := h', gens := g', drawn := d', toks := t' } := by
  obtain ⟨m, ⟨o, es, ep, ho, r⟩, _⟩ := id I.loc
  obtain ⟨sl, hL⟩ := u.any ho I.free fun z => (hch _ z).2.1 rfl
  exact I.step (ch := ch) hch (fun b o hL hb hc e n => u.keep b o e n (fun z => (List.mem_cons.mp (I.stkSub b z)).elim hL hb) hc) (fun b o _ _ hc e n => u.any e n hc) (fun b o hc e n => u.free b o e n hc) (fun b o hc e => u.there b o e hc) u.tups u.frzs u.tbls (fun m' hm => by
    obtain ⟨o', es', ep', ho', r'⟩ := hm
    rw [ho] at ho'; cases ho'
    exact ⟨_, es', ep', hL, r'⟩) hok hg
theorem Inv.turned {t' : Nat} {it : Addr} (I : Inv X pins σ H s) (k : ∀ b o, b ≠ it → s.heap.get? b = some o → h'.get? b = some o) (hn : H it = none) (hL : it ≠ X.env.locals)
    (h1 : it ∈ X.ex ∨ X.s₀.heap.objs.size ≤ it) (h2 : ∀ x c, X.env.cells.lookup x = some c → c ≠ it) (h3 : ∀ p ∈ X.pn ++ pins, p.1 ≠ it) : Inv X pins σ H { s with heap := h', toks := t' } := by
  have nit : ∀ b u, H b = some u → b ≠ it := fun b u e z => by rw [z, hn] at e; cases e
  refine I.step (g' := s.gens) (d' := s.drawn) (ch := [it]) (fun b hb => ?_) (fun b o _ _ hc e _ => k b o (fun z => hc (by simp [z])) e) (fun b o _ _ hc e _ => ⟨o.slots, k b o (fun z => hc (by simp [z])) e⟩) (fun _ _ _ _ n => n)
    (fun b o hc e => ⟨o, k b o (fun z => hc (by simp [z])) e⟩) (fun _ _ e => e) (fun _ _ _ e => e) (fun b ps e => ⟨#[], by rw [e]; simp⟩) (fun m hm => ?_) (fun b u e => ?_) I.bare
  · have e : b = it := by simpa using hb
    subst e
    exact ⟨h1, hL, h2, h3⟩
  · obtain ⟨o, es, ep, ho, r⟩ := hm
    exact ⟨o, es, ep, k _ o (Ne.symm hL) ho, r⟩
  · refine (I.hok b u e).stay (fun c v hc q => k c v ?_ q) (fun _ q => q) fun _ _ q => q
    rcases hc with z | z
    · rw [z]; exact nit b u e
    · exact nit c _ z
theorem Inv.tok (I : Inv X pins σ H s) (t : Nat) : Inv X pins σ H { s with toks := t } := I.un (h' := s.heap) (t' := t) Un.refl I.hok
theorem Inv.kept {t' : Nat} (I : Inv X pins σ H s) (k : ∀ b u, s.heap.get? b = some u → h'.get? b = some u) : Inv X pins σ H { s with heap := h', toks := t' } := I.un (Un.kept k) (I.hok.kept k)
theorem Inv.laid {a : Addr} {o : HO} {t' : Nat} (I : Inv X pins σ H s) (k : ∀ b u, s.heap.get? b = some u → h'.get? b = some u) (hp : s.heap.objs.size ≤ a) (new : ObjOk X.prog X.w (upd H a o) h' a o) :
    Inv X pins σ (upd H a o) { s with heap := h', toks := t' } := I.un (Un.laid k hp (I.hok.fresh hp)) (I.hok.laid k hp new)
theorem Inv.write {x e : Addr} {o : HO} {t' : Nat} (I : Inv X pins σ H s) (mu : Mut (H x)) (he : e = x ∨ H e = some (.own x)) (k : ∀ b u, b ≠ e → s.heap.get? b = some u → h'.get? b = some u) (heo : ∃ u, h'.get? e = some u)
    (new : ObjOk X.prog X.w (upd H x o) h' x o) : Inv X pins σ (upd H x o) { s with heap := h', toks := t' } := I.un (Un.write mu he k heo) (I.hok.write mu he k heo new)
theorem Inv.pins_of {pins' : List (Addr × Obj)} (I : Inv X pins σ H s) (h : ∀ p ∈ pins', s.heap.get? p.1 = some p.2 ∧ H p.1 = none ∧ p.1 ≠ X.env.locals ∧ p.1 ∉ X.fs ∧ ∀ v, p.2.data ≠ .cell v) : Inv X pins' σ H s :=
  ⟨I.ok, I.os, I.bare, I.base, I.loc, I.cell, I.free, I.freeC, fun p hp => (List.mem_append.mp hp).elim (fun z => I.pin p (List.mem_append_left _ z)) (h p), I.hok, I.len⟩
theorem nodup_ix {N : List Str} (hN : N.Nodup) {i j : Nat} {x : Str} (a : N[i]? = some x) (b : N[j]? = some x) : i = j := by
  obtain ⟨h1, e1⟩ := List.getElem?_eq_some_iff.mp a
  obtain ⟨h2, e2⟩ := List.getElem?_eq_some_iff.mp b
  exact (List.getElem_inj hN).mp (e1.trans e2.symm)
theorem store_ok2 {M : Model} {A : Around} {E : Value → Shared → Prop} {i : Nat} {x : Str} {v : V} {u : Value} {Q : Unit → Shared → Prop} (I : Inv X pins σ H s) (hN : X.N.Nodup) (hi : X.N[i]? = some x) (hx : Loc X.env.scope x) (r : RelV v u)
    (h : ∀ s', Inv X pins (σ.set i (some v)) H s' → (∃ a, Heap.SameBut a s.heap s'.heap ∧ (a = X.env.locals ∨ X.env.cells.lookup x = some a)) → Q () s') (hf : X.fn x = true ∨ X.env.scope.names.lookup x = some .local := by first | exact .inl rfl | exact .inr rfl | assumption) : wpAny M A (storeName X.env x u) Q E s := by
  obtain ⟨m, hn, hl⟩ := id I.loc
  have hcls : (X.env.scope.kind == .class || (X.env.scope.kind == .module && X.env.locals != X.env.globals)) = false := by rw [I.ok.kind]; rfl
  have hiσ : i < σ.length := by rw [I.len]; exact (List.getElem?_eq_some_iff.mp hi).1
  have cne := I.cne
  have tracked : ∀ {a : Addr} {h' : Heap}, (∃ o, s.heap.get? a = some o ∧ H a = none) → Heap.SameBut a s.heap h' → HOk X.prog X.w H h' := fun {a h'} ha hs b ob e => by
    obtain ⟨_, _, hfree⟩ := ha
    refine (I.hok b ob e).stay (fun c w' hc q => (hs.2 c ?_).trans q) (fun _ q => q) fun _ _ q => q
    rintro rfl
    rcases hc with rfl | hc
    · rw [hfree] at e; cases e
    · rw [hfree] at hc; cases hc
  rcases hx with hk | hk
  · refine wpAny_storeName_local hk hn (fun h' hn' hs => ?_) hcls
    obtain ⟨oL, _, _, hoL, _⟩ := id hn
    refine h _ ⟨I.ok, I.os, I.bare, ⟨fun b o e n hb hx => ?_, fun b o e n hb hx => ?_, I.base.free, fun b o e hx => ?_, I.base.tups, I.base.frzs, I.base.tbls⟩, ⟨_, hn', fun j y v' e1 e2 e3 => ?_⟩, fun y c e => ?_, I.free, I.freeC, fun p hp => ?_, tracked ⟨oL, hoL, I.free⟩ hs, by simpa using I.len⟩ ⟨_, hs, .inl rfl⟩
    · exact (hs.2 b (Nat.ne_of_lt (Nat.lt_of_lt_of_le (Heap.lt_size e) I.ok.above))).trans (I.base.keep b o e n hb hx)
    · obtain ⟨sl, e1⟩ := I.base.slot b o e n hb hx
      exact ⟨sl, (hs.2 b (Nat.ne_of_lt (Nat.lt_of_lt_of_le (Heap.lt_size e) I.ok.above))).trans e1⟩
    · obtain ⟨o', e1⟩ := I.base.there b o e hx
      exact ⟨o', (hs.2 b (Nat.ne_of_lt (Nat.lt_of_lt_of_le (Heap.lt_size e) I.ok.above))).trans e1⟩
    · by_cases hj : j = i
      · subst hj
        rw [hi] at e1; cases e1
        rw [List.getElem?_set_self hiσ] at e2
        cases e2
        exact ⟨u, r, .inl ⟨hk, by simp⟩⟩
      · rw [List.getElem?_set_ne (Ne.symm hj)] at e2
        obtain ⟨u', r', q⟩ := hl j y v' e1 e2 e3
        refine ⟨u', r', ?_⟩
        rcases q with ⟨k, e⟩ | ⟨k, c, e, z⟩
        · refine .inl ⟨k, ?_⟩
          have : y ≠ x := fun e => hj (nodup_ix hN e1 (e ▸ hi))
          simp [this, e]
        · exact .inr ⟨k, c, e, z.sameBut hs (cne y c e)⟩
    · obtain ⟨w', z⟩ := I.cell y c e
      exact ⟨w', z.sameBut hs (cne y c e)⟩
    · obtain ⟨e, n, ne, nf, d⟩ := I.pin p hp
      exact ⟨(hs.2 p.1 ne).trans e, n, ne, nf, d⟩
  · have hfn : X.fn x = true := by
      rcases hf with z | z
      · exact z
      · rw [z] at hk; cases hk
    obtain ⟨c, hc⟩ := I.ok.has x (.inl hk)
    obtain ⟨w', z⟩ := I.cell x c hc
    refine wpAny_storeName_cell I.ok.kind hk hc z (fun h' hc' hs => ?_)
    obtain ⟨oc, hoc, hocd⟩ := id z
    refine h { s with heap := h' } ⟨I.ok, I.os, I.bare, ⟨fun b o e n hb hx => ?_, fun b o e n hb hx => ?_, I.base.free, fun b o e hx => ?_, I.base.tups, I.base.frzs, I.base.tbls⟩, ⟨m, hn.sameBut hs (Ne.symm (cne x c hc)), fun j y v' e1 e2 e3 => ?_⟩, fun y c' e => ?_, I.free, I.freeC, fun p hp => ?_, tracked ⟨oc, hoc, I.freeC x c hc⟩ hs, by simpa using I.len⟩ ⟨c, hs, .inr hc⟩
    · exact (hs.2 b (Nat.ne_of_lt (Nat.lt_of_lt_of_le (Heap.lt_size e) (I.ok.cab x c hfn hc)))).trans (I.base.keep b o e n hb hx)
    · obtain ⟨sl, e1⟩ := I.base.slot b o e n hb hx
      exact ⟨sl, (hs.2 b (Nat.ne_of_lt (Nat.lt_of_lt_of_le (Heap.lt_size e) (I.ok.cab x c hfn hc)))).trans e1⟩
    · obtain ⟨o', e1⟩ := I.base.there b o e hx
      exact ⟨o', (hs.2 b (Nat.ne_of_lt (Nat.lt_of_lt_of_le (Heap.lt_size e) (I.ok.cab x c hfn hc)))).trans e1⟩
    · by_cases hj : j = i
      · subst hj
        rw [hi] at e1; cases e1
        rw [List.getElem?_set_self hiσ] at e2
        cases e2
        exact ⟨u, r, .inr ⟨.inl hk, c, hc, hc'⟩⟩
      · rw [List.getElem?_set_ne (Ne.symm hj)] at e2
        obtain ⟨u', r', q⟩ := hl j y v' e1 e2 e3
        refine ⟨u', r', ?_⟩
        rcases q with q | ⟨k, c', e, z'⟩
        · exact .inl q
        · refine .inr ⟨k, c', e, z'.sameBut hs ?_⟩
          rintro rfl
          exact hj (nodup_ix hN e1 (I.ok.inj _ _ _ e hc ▸ hi))
    · by_cases hcc : c' = c
      · subst hcc; exact ⟨_, hc'⟩
      · obtain ⟨w2, z2⟩ := I.cell y c' e
        exact ⟨w2, z2.sameBut hs hcc⟩
    · obtain ⟨e, n, ne, nf, d⟩ := I.pin p hp
      refine ⟨(hs.2 p.1 ?_).trans e, n, ne, nf, d⟩
      intro q
      rw [q, hoc] at e
      have q' : oc = p.2 := Option.some.inj e
      exact d w' (by rw [← q']; exact hocd)
theorem store_ok {M : Model} {A : Around} {E : Value → Shared → Prop} {i : Nat} {x : Str} {v : V} {u : Value} {Q : Unit → Shared → Prop} (I : Inv X pins σ H s) (hN : X.N.Nodup) (hi : X.N[i]? = some x) (hx : Loc X.env.scope x) (r : RelV v u)
    (h : ∀ s', Inv X pins (σ.set i (some v)) H s' → Q () s') (hf : X.fn x = true ∨ X.env.scope.names.lookup x = some .local := by first | exact .inl rfl | exact .inr rfl | assumption) : wpAny M A (storeName X.env x u) Q E s :=
  store_ok2 I hN hi hx r (fun s' I' _ => h s' I') hf
theorem Inv.call' {s' : Shared} {ch : List Addr} (I : Inv X pins σ H s) (ho : s'.os = s.os) (u : Un (frs X.stack) ch H H' s.heap s'.heap) (hok : HOk X.prog X.w H' s'.heap) (hg : AllBare s'.gens)
    (hch : ∀ b ∈ ch, (b ∈ X.ex ∨ X.s₀.heap.objs.size ≤ b) ∧ b ≠ X.env.locals ∧ (∀ x c, X.env.cells.lookup x = some c → c ≠ b) ∧ ∀ p ∈ X.pn ++ pins, p.1 ≠ b) : Inv X pins σ H' s' := by
  obtain ⟨h', g', d', t', o'⟩ := s'
  have e : o' = s.os := ho
  subst e
  exact I.call (g' := g') (t' := t') (d' := d') u hok hg hch
end
abbrev XK := Value → Option Addr → Hp → Prop
abbrev St := List (Option V)
abbrev VK := V → Hp → Prop
abbrev TE := St → Hp → VK → Prop
abbrev TT := St → Hp → (Bool → Hp → Prop) → Prop
abbrev TA := St → Hp → (List V → Hp → Prop) → Prop
structure Ends where
  nx : St → Hp → Prop
  rt : VK
  bk : St → Hp → Prop := fun _ _ => False
  ct : St → Hp → Prop := fun _ _ => False
abbrev TS := Ends → St → Hp → Prop
def EP (X : Cx) (pins : List (Addr × Obj)) (σ : St) (Q : VK) (u : Value) (s' : Shared) : Prop := ∃ v H', Inv X pins σ H' s' ∧ RelV v u ∧ Q v H'
def TP (X : Cx) (pins : List (Addr × Obj)) (σ : St) (Q : Bool → Hp → Prop) (b : Bool) (s' : Shared) : Prop := ∃ H', Inv X pins σ H' s' ∧ Q b H'
def AP (X : Cx) (pins : List (Addr × Obj)) (σ : St) (Q : List V → Hp → Prop) (us : List Value) (s' : Shared) : Prop := ∃ vs H', Inv X pins σ H' s' ∧ Vals vs us ∧ Q vs H'
def SP (X : Cx) (pins : List (Addr × Obj)) (D : Ends) (f : Flow) (s' : Shared) : Prop :=
  match f with
  | .next => ∃ σ' H', Inv X pins σ' H' s' ∧ D.nx σ' H'
  | .brk => ∃ σ' H', Inv X pins σ' H' s' ∧ D.bk σ' H'
  | .cont => ∃ σ' H', Inv X pins σ' H' s' ∧ D.ct σ' H'
  | .ret u => ∃ v σ' H', Inv X pins σ' H' s' ∧ RelV v u ∧ D.rt v H'
def PE (X : Cx) (e : Expr) (t : TE) : Prop :=
  ∀ (pins : List (Addr × Obj)) (s : Shared) (σ : St) (H : Hp) (Q : VK), Inv X pins σ H s → t σ H Q → wpAny (model X.prog X.w) X.A (eval e X.env) (EP X pins σ Q) X.xe s
def PT (X : Cx) (e : Expr) (t : TT) : Prop :=
  ∀ (pins : List (Addr × Obj)) (s : Shared) (σ : St) (H : Hp) (Q : Bool → Hp → Prop), Inv X pins σ H s → t σ H Q → wpAny (model X.prog X.w) X.A (isTrue e X.env (eval e X.env)) (TP X pins σ Q) X.xe s
def PW (X : Cx) (e : Expr) (t : TT) : Prop :=
  ∀ (whole : Sem Value) (pins : List (Addr × Obj)) (s : Shared) (σ : St) (H : Hp) (Q : Bool → Hp → Prop), Inv X pins σ H s → t σ H Q → wpAny (model X.prog X.w) X.A (isTrue e X.env whole) (TP X pins σ Q) X.xe s
theorem PW.pt {X : Cx} {e : Expr} {t : TT} (h : PW X e t) : PT X e t := h _
def PA (X : Cx) (es : List Expr) (t : TA) : Prop :=
  ∀ (pos : Pos) (pins : List (Addr × Obj)) (s : Shared) (σ : St) (H : Hp) (Q : List V → Hp → Prop), Inv X pins σ H s → t σ H Q → wpAny (model X.prog X.w) X.A (spliced (backTo pos (starEach es X.env))) (AP X pins σ Q) X.xe s
def PS (X : Cx) (st : Stmt) (t : TS) : Prop :=
  ∀ (pins : List (Addr × Obj)) (s : Shared) (σ : St) (H : Hp) (D : Ends), Inv X pins σ H s → t D σ H → wpAny (model X.prog X.w) X.A (exec st X.env) (SP X pins D) X.xe s
def PSs (X : Cx) (st : List Stmt) (t : TS) : Prop :=
  ∀ (pins : List (Addr × Obj)) (s : Shared) (σ : St) (H : Hp) (D : Ends), Inv X pins σ H s → t D σ H → wpAny (model X.prog X.w) X.A (execs st X.env) (SP X pins D) X.xe s
theorem thn {α : Type} {t : Sem α} {Q Q' : α → Shared → Prop} {M : Model} {A : Around} {E : Value → Shared → Prop} {s : Shared} (h : wpAny M A t Q E s) (hQ : ∀ a s, Q a s → Q' a s) : wpAny M A t Q' E s := wpAny_mono h hQ fun _ _ x => x
end L2
namespace L2
open PySem PySem.Spec PyProof.Rows
section
variable {X : Cx}
def tVar (i : Nat) : TE := fun σ H Q => ∃ v, σ[i]? = some (some v) ∧ Q v H
def tC (v : V) : TE := fun _ H Q => Q v H
theorem pe_var {i : Nat} {x : Str} {pos : Pos} (hN : X.N[i]? = some x) (hv : Vis X.env.scope x) (hd : (x == ("__debug__" : Str)) = false := by decide) (hcd : (x == ("__classdict__" : Str)) = false := by decide) : PE X (.Name x pos) (tVar i) := by
  intro pins s σ H Q I h
  obtain ⟨v, e, h⟩ := h
  obtain ⟨m, hn, hl⟩ := I.loc
  obtain ⟨u, r, l⟩ := hl i x v hN e hv
  have fin : EP X pins σ Q u s := ⟨v, H, I, r, h⟩
  rcases l with ⟨hk, hm⟩ | ⟨hk, c, hc, hcell⟩
  · exact wpAny_Name (wpAny_loadName_local I.ok.kind hk hn hm fin) hd
  · rcases hk with hk | hk
    · exact wpAny_Name (wpAny_loadName_cell I.ok.kind hk hc hcell fin) hd
    · exact wpAny_Name (wpAny_loadName_free I.ok.kind hk hc hcell fin hcd) hd
theorem pe_int {i j pos} : PE X (.Constant (.int i) j pos) (tC (.int i)) := fun _ _ _ H _ I h => wpAny_Constant_int ⟨.int i, H, I.tok _, ⟨_, rfl⟩, h⟩
theorem pe_bl {b j pos} : PE X (.Constant (.bool b) j pos) (tC (.bl b)) := fun _ _ _ H _ I h => Constant_bool ⟨.bl b, H, I, rfl, h⟩
theorem pe_non {j pos} : PE X (.Constant .none j pos) (tC .non) := fun _ _ _ H _ I h => Constant_none ⟨.non, H, I, rfl, h⟩
theorem pe_str {x j pos} : PE X (.Constant (.str x) j pos) (tC (.str x)) := fun _ _ _ H _ I h => Calls.Constant_str ⟨.str x, H, I.tok _, ⟨_, rfl⟩, h⟩
def Gl (X : Cx) (x : Str) : Prop := X.env.kindOf x = some .globalImplicit
theorem ld_glob {E : Value → Shared → Prop} {pins : List (Addr × Obj)} {s : Shared} {σ : St} {H : Hp} {x : Str} {u : Value} {pos : Pos} {Q : Value → Shared → Prop} (I : Inv X pins σ H s) (hg : Gl X x) (hm : X.mg x = some u) (h : Q u s)
    (hd : (x == ("__debug__" : Str)) = false := by decide) : wpAny (model X.prog X.w) X.A (eval (.Name x pos) X.env) Q E s :=
  Calls.Name_function_global I.ok.kind hg (Calls.loadGlobal_global (by rw [I.ok.glob]; exact I.mod.glob.keeps I.bk) hm h) hd
theorem ld_blt {E : Value → Shared → Prop} {pins : List (Addr × Obj)} {s : Shared} {σ : St} {H : Hp} {x : Str} {u : Value} {pos : Pos} {Q : Value → Shared → Prop} (I : Inv X pins σ H s) (hg : Gl X x) (hm : X.mg x = none) (hv : bootBuiltins x = some u) (h : Q u s)
    (hn : x ≠ "__name__" := by decide) (hd : (x == ("__debug__" : Str)) = false := by decide) : wpAny (model X.prog X.w) X.A (eval (.Name x pos) X.env) Q E s := by
  obtain ⟨mb, h1, h2⟩ := I.mod.blt
  exact Calls.Name_function_global I.ok.kind hg (Calls.loadGlobal_builtin (by rw [I.ok.glob]; exact I.mod.glob.keeps I.bk) hm (by rw [I.ok.blt]; exact h1.keeps I.bk) ((h2 x hn).trans hv) h) hd
theorem pe_glob {x : Str} {v : V} {u : Value} {pos : Pos} (hg : Gl X x) (hm : X.mg x = some u) (r : RelV v u) (hd : (x == ("__debug__" : Str)) = false := by decide) : PE X (.Name x pos) (tC v) :=
  fun _ _ _ H _ I h => ld_glob I hg hm ⟨v, H, I, r, h⟩ hd
theorem pe_bltn {x : Str} {v : V} {u : Value} {pos : Pos} (hg : Gl X x) (hm : X.mg x = none) (hv : bootBuiltins x = some u) (r : RelV v u) (hn : x ≠ "__name__" := by decide) (hd : (x == ("__debug__" : Str)) = false := by decide) : PE X (.Name x pos) (tC v) :=
  fun _ _ _ H _ I h => ld_blt I hg hm hv ⟨v, H, I, r, h⟩ hn hd
def t2I (ta tb : TE) (k : Int → Int → Hp → Prop) : St → Hp → Prop := fun σ H => ta σ H fun x H1 => tb σ H1 fun y H2 => ∃ i j, x = .int i ∧ y = .int j ∧ k i j H2
variable {a b : Expr} {ta tb : TE} {pos : Pos}
def tCmp (p : Int → Int → Bool) (ta tb : TE) : TE := fun σ H Q => t2I ta tb (fun i j H2 => Q (.bl (p i j)) H2) σ H
abbrev tLt : TE → TE → TE := tCmp fun i j => decide (i < j)
abbrev tLe : TE → TE → TE := tCmp fun i j => decide (i ≤ j)
abbrev tGt : TE → TE → TE := tCmp fun i j => decide (j < i)
abbrev tGe : TE → TE → TE := tCmp fun i j => decide (j ≤ i)
abbrev tEqI : TE → TE → TE := tCmp fun i j => decide (i = j)
abbrev tNeI : TE → TE → TE := tCmp fun i j => !decide (i = j)
def tB (t : TE) : TT := fun σ H Q => t σ H fun x H1 => ∃ c, x = .bl c ∧ Q c H1
theorem pt_val {e : Expr} {t : TE} (h : PE X e t) (he : ∀ whole, isTrue e X.env whole = (do let v ← whole; standAt e.pos; holding [v] (truthy v)) := by intro _; rfl) : PT X e (tB t) := by
  intro pins s σ H Q I hw
  refine isTrue_plain (thn (h pins s σ H _ I hw) fun v s1 ⟨x, H1, I1, r1, q1⟩ => ?_) (he _)
  obtain ⟨d, rfl, q⟩ := q1
  cases r1
  exact wpAny_truthy_bool ⟨H1, I1, q⟩
variable {tA tB' : TT} {rest : List Expr}
def tAnd (t u : TT) : TT := fun σ H Q => t σ H fun c H1 => if c = true then u σ H1 Q else Q false H1
def tOr (t u : TT) : TT := fun σ H Q => t σ H fun c H1 => if c = true then Q true H1 else u σ H1 Q
def tNot (t : TT) : TT := fun σ H Q => t σ H fun c H1 => Q (!c) H1
theorem pw_and1 (ha : PT X a tA) : PW X (.BoolOp .And [a] pos) tA := by
  intro wh pins s σ H Q I h
  refine isTrue_and (thn (ha pins s σ H Q I h) fun c s1 e => ?_)
  cases c with
  | true => exact isTrue_and_nil e
  | false => exact e
theorem pw_or1 (ha : PT X a tA) : PW X (.BoolOp .Or [a] pos) tA := by
  intro wh pins s σ H Q I h
  refine isTrue_or (thn (ha pins s σ H Q I h) fun c s1 e => ?_)
  cases c with
  | false => exact isTrue_or_nil e
  | true => exact e
theorem pw_and (ha : PT X a tA) (hb : PW X (.BoolOp .And (b :: rest) pos) tB') : PW X (.BoolOp .And (a :: b :: rest) pos) (tAnd tA tB') := by
  intro wh pins s σ H Q I h
  refine isTrue_and (thn (ha pins s σ H _ I h) fun c s1 ⟨H1, I1, q1⟩ => ?_)
  cases c with
  | true => exact hb wh pins s1 σ H1 Q I1 q1
  | false => exact ⟨H1, I1, q1⟩
theorem pw_or (ha : PT X a tA) (hb : PW X (.BoolOp .Or (b :: rest) pos) tB') : PW X (.BoolOp .Or (a :: b :: rest) pos) (tOr tA tB') := by
  intro wh pins s σ H Q I h
  refine isTrue_or (thn (ha pins s σ H _ I h) fun c s1 ⟨H1, I1, q1⟩ => ?_)
  cases c with
  | true => exact ⟨H1, I1, q1⟩
  | false => exact hb wh pins s1 σ H1 Q I1 q1
theorem pt_not (ha : PT X a tA) : PT X (.UnaryOp .Not a pos) (tNot tA) := by
  intro pins s σ H Q I h
  exact isTrue_not (ha pins s σ H (fun c H1 => Q (!c) H1) I h)
def tAndV (ta tb : TE) : TE := fun σ H Q => ta σ H fun x H1 => ∃ c, x = .bl c ∧ if c = true then tb σ H1 Q else Q (.bl false) H1
def tOrV (ta tb : TE) : TE := fun σ H Q => ta σ H fun x H1 => ∃ c, x = .bl c ∧ if c = true then Q (.bl true) H1 else tb σ H1 Q
def tNotV (ta : TE) : TE := fun σ H Q => ta σ H fun x H1 => ∃ c, x = .bl c ∧ Q (.bl (!c)) H1
theorem pe_one {op} {t : TE} (h : PE X a t) : PE X (.BoolOp op [a] pos) t := fun pins s σ H Q I hw => BoolOp_one (h pins s σ H Q I hw)
theorem pe_and (ha : PE X a ta) (hb : PE X (.BoolOp .And (b :: rest) pos) tb) : PE X (.BoolOp .And (a :: b :: rest) pos) (tAndV ta tb) := by
  intro pins s σ H Q I h
  refine BoolOp_and (thn (ha pins s σ H _ I h) fun v s1 ⟨x, H1, I1, r1, q1⟩ => ?_)
  obtain ⟨c, rfl, q1⟩ := q1
  cases r1
  refine wpAny_truthy_bool ?_
  cases c with
  | true => exact hb pins s1 σ H1 Q I1 q1
  | false => exact ⟨.bl false, H1, I1, rfl, q1⟩
theorem pe_or (ha : PE X a ta) (hb : PE X (.BoolOp .Or (b :: rest) pos) tb) : PE X (.BoolOp .Or (a :: b :: rest) pos) (tOrV ta tb) := by
  intro pins s σ H Q I h
  refine BoolOp_or (thn (ha pins s σ H _ I h) fun v s1 ⟨x, H1, I1, r1, q1⟩ => ?_)
  obtain ⟨c, rfl, q1⟩ := q1
  cases r1
  refine wpAny_truthy_bool ?_
  cases c with
  | false => exact hb pins s1 σ H1 Q I1 q1
  | true => exact ⟨.bl true, H1, I1, rfl, q1⟩
theorem pe_not (ha : PE X a ta) : PE X (.UnaryOp .Not a pos) (tNotV ta) := by
  intro pins s σ H Q I h
  refine UnaryOp_ (thn (ha pins s σ H _ I h) fun v s1 ⟨x, H1, I1, r1, q1⟩ => ?_)
  obtain ⟨c, rfl, q1⟩ := q1
  cases r1
  exact not_of (wpAny_truthy_bool ⟨.bl (!c), H1, I1, rfl, q1⟩)
def tIf (t : TT) (ta tb : TE) : TE := fun σ H Q => t σ H fun c H1 => if c = true then ta σ H1 Q else tb σ H1 Q
end
end L2
namespace L2
open PySem PySem.Spec PyProof.Rows
def SqL (K : PySem.W.Frag) (H : Hp) (a : Addr) (xs : List V) : Prop :=
  Rd H a (.lst xs) ∨
    ∃ (o : Obj) (its : Array Value) (n : Nat), K.lookup a = some o ∧ o.cls = .type "list" ∧ o.dict = none ∧ o.data = .seq its n ∧ its.size ≤ sizeLine ∧ Vals xs its.toList
def SqT (K : PySem.W.Frag) (H : Hp) (a : Addr) (xs : List V) : Prop :=
  Rd H a (.tup xs) ∨
    ∃ (o : Obj) (its : Array Value) (n : Nat), K.lookup a = some o ∧ o.cls = .type "tuple" ∧ o.data = .seq its n ∧ its.size ≤ sizeLine ∧ Vals xs its.toList
def absV : Value → Option V
  | .none => some .non
  | .bool b => some (.bl b)
  | .int i _ => some (.int i)
  | .str x _ => some (.str x)
  | .bytes b _ => some (.byt b)
  | .float b _ => some (.flt b)
  | .ref a => some (.ref a)
  | .type n => some (.ty n)
  | _ => none
theorem RelV.abs {x : V} {u : Value} (r : RelV x u) : absV u = some x := by
  cases x with
  | non => cases r; rfl
  | bl _ => cases r; rfl
  | int _ => obtain ⟨t, rfl⟩ := r; rfl
  | str _ => obtain ⟨t, rfl⟩ := r; rfl
  | byt _ => obtain ⟨t, rfl⟩ := r; rfl
  | flt _ => obtain ⟨t, rfl⟩ := r; rfl
  | ref _ => cases r; rfl
  | ty _ => cases r; rfl
theorem RelV.inj {x y : V} {u : Value} (r : RelV x u) (q : RelV y u) : x = y := Option.some.inj (r.abs.symm.trans q.abs)
theorem Vals.inj : ∀ {xs ys : List V} {us : List Value}, Vals xs us → Vals ys us → xs = ys
  | _, _, _, .nil, .nil => rfl
  | _, _, _, .cons r t, .cons r' t' => by rw [r.inj r', Vals.inj t t']
section
variable {X : Cx} {pins : List (Addr × Obj)} {σ : St} {H : Hp} {s : Shared} {a : Addr} {xs ys : List V}
theorem SqL.of {K : PySem.W.Frag} (h : H a = some (.lst xs)) : SqL K H a xs := .inl (.inl h)
theorem SqT.of {K : PySem.W.Frag} (h : H a = some (.tup xs)) : SqT K H a xs := .inl (.inl h)
theorem Inv.list (I : Inv X pins σ H s) (h : SqL X.K H a xs) : ∃ its : List Value, Vals xs its ∧ PlainL s.heap a its.toArray ∧ xs.length ≤ sizeLine := by
  rcases h with h | ⟨o, its, n, hk, hc, hd, hs, hz, r⟩
  · obtain ⟨z, its, n, r, e⟩ := h.ok I.hok
    exact ⟨its, r, ⟨_, n, e, rfl, rfl, rfl⟩, z⟩
  · refine ⟨its.toList, r, ⟨o, n, I.kIn a o hk, hc, hd, by simpa using hs⟩, ?_⟩
    have e := r.length
    simp only [Array.length_toList] at e
    omega
theorem Inv.tuple (I : Inv X pins σ H s) (h : SqT X.K H a xs) : ∃ its : List Value, Vals xs its ∧ IsTup s.heap a its.toArray ∧ xs.length ≤ sizeLine := by
  rcases h with h | ⟨o, its, n, hk, hc, hs, hz, r⟩
  · obtain ⟨z, its, r, p⟩ := h.ok I.hok
    exact ⟨its, r, p, z⟩
  · refine ⟨its.toList, r, ⟨o, I.kIn a o hk, hc, n, by simpa using hs⟩, ?_⟩
    have e := r.length
    simp only [Array.length_toList] at e
    omega
theorem Inv.tuple_inj (I : Inv X pins σ H s) (h : SqT X.K H a xs) (h' : SqT X.K H a ys) : xs = ys := by
  obtain ⟨its, r, ⟨o, e, _, n, d⟩, _⟩ := I.tuple h
  obtain ⟨its', r', ⟨o', e', _, n', d'⟩, _⟩ := I.tuple h'
  rw [e] at e'; cases e'
  rw [d] at d'
  injection d' with d1 _
  have : its = its' := by simpa using congrArg Array.toList d1
  subst this
  exact r.inj r'
end
abbrev Cx.wish (X : Cx) (E : Value → Shared → Prop) : Cx := { X with xe := E }
abbrev Cx.nox (X : Cx) : Cx := X.wish fun _ _ => False
theorem Cx.Ok.wish {X : Cx} (ok : X.Ok) (E : Value → Shared → Prop) : (X.wish E).Ok :=
  ⟨ok.mod, ok.kind, ok.glob, ok.blt, ok.above, ok.inj, ok.has, ok.cab, ok.hd, ok.frames, ok.stk, ok.exf, ok.bs, ok.bsz, ok.noex, ok.exfs, ok.funs, ok.frf⟩
theorem Cx.Ok.unwish {X : Cx} {E : Value → Shared → Prop} (ok : (X.wish E).Ok) : X.Ok :=
  ⟨ok.mod, ok.kind, ok.glob, ok.blt, ok.above, ok.inj, ok.has, ok.cab, ok.hd, ok.frames, ok.stk, ok.exf, ok.bs, ok.bsz, ok.noex, ok.exfs, ok.funs, ok.frf⟩
section
variable {X : Cx} {pins : List (Addr × Obj)} {σ : St} {H : Hp} {s : Shared} {E : Value → Shared → Prop}
theorem Inv.wish (I : Inv X pins σ H s) (E : Value → Shared → Prop) : Inv (X.wish E) pins σ H s := ⟨I.ok.wish E, I.os, I.bare, I.base, I.loc, I.cell, I.free, I.freeC, I.pin, I.hok, I.len⟩
theorem Inv.unwish (I : Inv (X.wish E) pins σ H s) : Inv X pins σ H s := ⟨I.ok.unwish, I.os, I.bare, I.base, I.loc, I.cell, I.free, I.freeC, I.pin, I.hok, I.len⟩
theorem SP.unwish {D : Ends} {f : Flow} {s' : Shared} (h : SP (X.wish E) pins D f s') : SP X pins D f s' := by
  cases f with
  | next => obtain ⟨σ', H', I, q⟩ := h; exact ⟨σ', H', I.unwish, q⟩
  | brk => obtain ⟨σ', H', I, q⟩ := h; exact ⟨σ', H', I.unwish, q⟩
  | cont => obtain ⟨σ', H', I, q⟩ := h; exact ⟨σ', H', I.unwish, q⟩
  | ret u => obtain ⟨v, σ', H', I, r, q⟩ := h; exact ⟨v, σ', H', I.unwish, r, q⟩
theorem PE.nox {e : Expr} {t : TE} (h : PE X.nox e t) : PE X e t := fun pins s σ H Q I hw =>
  wpAny_mono (h pins s σ H Q (I.wish _) hw) (fun _ _ ⟨v, H', I', r, q⟩ => ⟨v, H', I'.unwish, r, q⟩) fun _ _ z => False.elim z
theorem PT.nox {e : Expr} {t : TT} (h : PT X.nox e t) : PT X e t := fun pins s σ H Q I hw =>
  wpAny_mono (h pins s σ H Q (I.wish _) hw) (fun _ _ ⟨H', I', q⟩ => ⟨H', I'.unwish, q⟩) fun _ _ z => False.elim z
theorem PSs.nox {st : List Stmt} {t : TS} (h : PSs X.nox st t) : PSs X st t := fun pins s σ H D I hw =>
  wpAny_mono (h pins s σ H D (I.wish _) hw) (fun _ _ q => q.unwish) fun _ _ z => False.elim z
end
section
variable {X : Cx} {st : Stmt} {rest : List Stmt} {t u : TS} {e : Expr} {te : TE} {pos : Pos}
def tNext : TS := fun D σ H => D.nx σ H
def tSeq (t u : TS) : TS := fun D σ H => t { D with nx := u D } σ H
theorem pss_nil : PSs X [] tNext := fun _ _ σ H _ I h => wpAny_execs_nil ⟨σ, H, I, h⟩
theorem pss_cons (h1 : PS X st t) (h2 : PSs X rest u) : PSs X (st :: rest) (tSeq t u) := by
  intro pins s σ H D I h
  refine wpAny_execs_cons (thn (h1 pins s σ H { D with nx := u D } I h) fun f s1 q => ?_)
  cases f with
  | next =>
    obtain ⟨σ', H', I', q⟩ := q
    exact h2 pins s1 σ' H' D I' q
  | ret v => exact q
  | brk => exact q
  | cont => exact q
theorem pss_one (h1 : PS X st t) : PSs X [st] t := by
  intro pins s σ H D I h
  refine wpAny_execs_cons (thn (h1 pins s σ H D I h) fun f s1 q => ?_)
  cases f with
  | next => exact wpAny_execs_nil q
  | ret v => exact q
  | brk => exact q
  | cont => exact q
theorem Inv.quiet {pins : List (Addr × Obj)} {σ : St} {H : Hp} {s : Shared} (I : Inv X pins σ H s) : interactive X.env = false := by simp [interactive, I.ok.kind]
def tDrop (te : TE) : TS := fun D σ H => te σ H fun _ H1 => D.nx σ H1
theorem ps_expr (he : PE X e te) (hs : swapsWith e none pos.line X.env = pure false := by rfl) : PS X (.Expr e pos) (tDrop te) := by
  intro pins s σ H D I h
  exact wpAny_Expr_any (thn (he pins s σ H _ I h) fun v s1 ⟨x, H1, I1, r1, q1⟩ => ⟨σ, H1, I1, q1⟩) I.quiet hs
def tRet (te : TE) : TS := fun D σ H => te σ H D.rt
theorem ps_ret (he : PE X e te) : PS X (.Return (some e) pos) (tRet te) := by
  intro pins s σ H D I h
  exact wpAny_Return_some (thn (he pins s σ H _ I h) fun v s1 ⟨x, H1, I1, r1, q1⟩ => ⟨x, σ, H1, I1, r1, q1⟩)
def tRetN : TS := fun D _ H => D.rt .non H
def tIfS (c : TT) (t u : TS) : TS := fun D σ H => c σ H fun b H1 => if b = true then t D σ H1 else u D σ H1
theorem ps_if {c : Expr} {a b : List Stmt} {tc : TT} (hc : PT X c tc) (ha : PSs X a t) (hb : PSs X b u) : PS X (.If c a b pos) (tIfS tc t u) := by
  intro pins s σ H D I h
  refine wpAny_If (thn (hc pins s σ H _ I h) fun d s1 ⟨H1, I1, q1⟩ => ?_)
  cases d with
  | true => exact ha pins s1 σ H1 D I1 q1
  | false => exact hb pins s1 σ H1 D I1 q1
def tNever : TS := fun _ _ _ => False
end
abbrev TG := V → St → Hp → (St → Hp → Prop) → Prop
abbrev TGs := List V → St → Hp → (St → Hp → Prop) → Prop
def PG (X : Cx) (target : Expr) (t : TG) : Prop :=
  ∀ (pins : List (Addr × Obj)) (s : Shared) (σ : St) (H : Hp) (v : V) (u : Value) (Q : St → Hp → Prop), Inv X pins σ H s → RelV v u → t v σ H Q →
    wpAny (model X.prog X.w) X.A (assign target X.env u) (fun _ s' => ∃ σ' H', Inv X pins σ' H' s' ∧ Q σ' H') X.xe s
abbrev TSet := V → V → V → Hp → (Hp → Prop) → Prop
abbrev TIp := V → V → Hp → VK → Prop
section
variable {X : Cx} {pos : Pos}
def gName (i : Nat) : TG := fun v σ H Q => Q (σ.set i (some v)) H
theorem pg_name {i : Nat} {x : Str} (hN : X.N.Nodup) (hi : X.N[i]? = some x) (hx : Loc X.env.scope x) (hf : X.fn x = true ∨ X.env.scope.names.lookup x = some .local := by first | exact .inl rfl | exact .inr rfl | assumption) : PG X (.Name x pos) (gName i) := by
  intro pins s σ H v u Q I r h
  exact wpAny_assign_Name (store_ok I hN hi hx r (fun s' I' => ⟨_, H, I', h⟩) hf)
def gNil : TGs := fun vs σ H Q => vs = [] ∧ Q σ H
def gCons (t : TG) (u : TGs) : TGs := fun vs σ H Q => ∃ v r, vs = v :: r ∧ t v σ H fun σ' H' => u r σ' H' Q
def gTup (K : PySem.W.Frag) (n : Nat) (t : TGs) : TG := fun v σ H Q => ∃ a xs, v = .ref a ∧ SqT K H a xs ∧ xs.length = n ∧ t xs σ H Q
def gSub (to ti : TE) (t : TSet) : TG := fun v σ H Q => to σ H fun o H1 => ti σ H1 fun i H2 => t o i v H2 fun H3 => Q σ H3
def tAsg (te : TE) (g : TG) : TS := fun D σ H => te σ H fun x H1 => g x σ H1 D.nx
theorem ps_set {i : Nat} {x : Str} {e : Expr} {te : TE} {pos' : Pos} (hN : X.N.Nodup) (hi : X.N[i]? = some x) (hx : Loc X.env.scope x) (he : PE X e te) (hs : swapsWith e (some (.Name x pos')) pos.line X.env = pure false := by rfl) (hf : X.fn x = true ∨ X.env.scope.names.lookup x = some .local := by first | exact .inl rfl | exact .inr rfl | assumption) :
    PS X (.Assign [.Name x pos'] e pos) (tAsg te (gName i)) := by
  intro pins s σ H D I h
  refine wpAny_Assign_Name (thn (he pins s σ H _ I h) fun v s1 ⟨y, H1, I1, r1, q1⟩ => ?_) hs
  exact store_ok I1 hN hi hx r1 (fun s2 I2 => ⟨_, H1, I2, q1⟩) hf
def tAug (i : Nat) (te : TE) (ti : TIp) : TS := fun D σ H => ∃ x, σ[i]? = some (some x) ∧ te σ H fun y H1 => ti x y H1 fun z H2 => D.nx (σ.set i (some z)) H2
def ipI (f : Int → Int → Int) : TIp := fun x y H Q => ∃ i j, x = .int i ∧ y = .int j ∧ Q (.int (f i j)) H
end
section
variable {X : Cx} {pos : Pos}
def tWhile (c : TT) (tb : TS) : TS := fun D σ H => ∃ W : Nat → St → Hp → Prop, (∃ m, W m σ H) ∧ ∀ m σ H, W m σ H →
  c σ H fun b H1 => if b = true then ∃ N : St → Hp → Prop, (∀ σ' H', N σ' H' → ∃ m', m' < m ∧ W m' σ' H') ∧ tb { D with nx := N, ct := N, bk := D.nx } σ H1 else D.nx σ H1
theorem ps_while {c : Expr} {body : List Stmt} {tc : TT} {tb : TS} (hp : PassesOwn (model X.prog X.w) X.A X.env X.xe) (hc : PT X c tc) (hb : PSs X body tb) : PS X (.While c body [] pos) (tWhile tc tb) := by
  intro pins s σ H D I h
  obtain ⟨W, ⟨m0, w0⟩, turn⟩ := h
  refine wpAny_While (codeAny_whileLoop (fun n s' => ∃ σ' H', Inv X pins σ' H' s' ∧ W n σ' H') ?_ m0 ⟨σ, H, I, w0⟩)
  rintro n s1 ⟨σ1, H1, I1, w1⟩
  refine wpAny_passesOwn hp (thn (hc pins s1 σ1 H1 _ I1 (turn n σ1 H1 w1)) fun b s2 ⟨H2, I2, q2⟩ => ?_)
  cases b with
  | true =>
    obtain ⟨N, hN, q2⟩ := q2
    rw [if_pos rfl]
    refine wpAny_passesOwn hp (thn (hb pins s2 σ1 H2 _ I2 q2) fun f s3 q3 => ?_)
    cases f with
    | next =>
      obtain ⟨σ3, H3, I3, n3⟩ := q3
      obtain ⟨m', hm, w3⟩ := hN σ3 H3 n3
      exact ⟨m', hm, σ3, H3, I3, w3⟩
    | cont =>
      obtain ⟨σ3, H3, I3, n3⟩ := q3
      obtain ⟨m', hm, w3⟩ := hN σ3 H3 n3
      exact ⟨m', hm, σ3, H3, I3, w3⟩
    | brk => exact q3
    | ret v => exact q3
  | false =>
    rw [if_neg Bool.false_ne_true]
    exact wpAny_execs_nil ⟨σ1, H2, I2, q2⟩
end
structure It where
  go : Nat → Hp → Prop
  yld : Nat → Hp → V → Hp → Prop
  stop : Nat → Hp → Prop
def FpOk (X : Cx) (pins : List (Addr × Obj)) (H : Hp) (b : Addr) : Prop :=
  H b = none ∧ b ≠ X.env.locals ∧ b ∉ X.fs ∧ (b ∈ X.ex ∨ X.s₀.heap.objs.size ≤ b) ∧ (∀ x c, X.env.cells.lookup x = some c → c ≠ b) ∧ ∀ p ∈ X.pn ++ pins, p.1 ≠ b
theorem Inv.fpOk {X : Cx} {pins : List (Addr × Obj)} {σ : St} {H H' : Hp} {s : Shared} {b : Addr} (I : Inv X pins σ H s) (hb : s.heap.objs.size ≤ b) (hn : H' b = none) : FpOk X pins H' b := by
  refine ⟨hn, Nat.ne_of_gt (Nat.lt_of_lt_of_le I.lt hb), I.nofs hb, .inr (Nat.le_trans I.sz hb), fun x c e z => ?_, fun p hp z => ?_⟩
  · obtain ⟨v, q⟩ := I.cell x c e
    exact absurd (Nat.lt_of_lt_of_le q.lt (by rw [z]; exact hb)) (Nat.lt_irrefl _)
  · exact absurd (Nat.lt_of_lt_of_le (Heap.lt_size (I.pin p hp).1) (by rw [z]; exact hb)) (Nat.lt_irrefl _)
structure Turn (P : Program) (w : World) (K : PySem.W.Frag) (tg : Expr) (J : It) (fp : List Addr) (it : Addr) (tn : Nat → Heap → Prop) : Prop where
  mem : it ∈ fp
  obj : ∀ i h, tn i h → ∀ b ∈ fp, ∃ o, h.get? b = some o ∧ ∀ v, o.data ≠ .cell v
  keep : ∀ i h h', tn i h → (∀ b ∈ fp, ∀ o, h.get? b = some o → h'.get? b = some o) → tn i h'
  item : ∀ (X : Cx), X.prog = P → X.w = w → X.K = K → X.calm = true → ∀ (i : Nat) (pins : List (Addr × Obj)) (s : Shared) (σ : St) (H : Hp) (E : Value → Shared → Prop), Inv X pins σ H s → (∀ b ∈ fp, FpOk X pins H b) → tn i s.heap → J.go i H →
    wpAny (model P w) X.A (pyNext (.ref it)) (fun r s1 => ∃ u, r = some u ∧
      wpAny (model P w) X.A (letOwnedTupleGo tg (.ref it) u) (fun _ s2 => ∃ x H', Inv X pins σ H' s2 ∧ RelV x u ∧ J.yld i H x H' ∧ tn (i + 1) s2.heap ∧ ∀ b ∈ fp, H' b = none) E s1) E s
  done : ∀ (X : Cx), X.prog = P → X.w = w → X.K = K → X.calm = true → ∀ (i : Nat) (pins : List (Addr × Obj)) (s : Shared) (σ : St) (H : Hp) (E : Value → Shared → Prop), Inv X pins σ H s → (∀ b ∈ fp, FpOk X pins H b) → tn i s.heap → J.stop i H →
    wpAny (model P w) X.A (pyNext (.ref it)) (fun r s1 => r = none ∧ Inv X pins σ H s1) E s
  self : ∀ (A : Around) (i : Nat) (s : Shared) (Q : Value → Shared → Prop) (E : Value → Shared → Prop), tn i s.heap → Q (.ref it) s → wpAny (model P w) A (pyIter (.ref it)) Q E s
abbrev TI := St → Hp → (It → Hp → Prop) → Prop
def PIE (X : Cx) (pins : List (Addr × Obj)) (σ : St) (tg : Expr) (R : It → Hp → Prop) (itv : Value) (s2 : Shared) : Prop :=
  ∃ (it : Addr) (fp : List Addr) (tn : Nat → Heap → Prop) (J : It) (H' : Hp), itv = .ref it ∧ Inv X pins σ H' s2 ∧ Turn X.prog X.w X.K tg J fp it tn ∧ tn 0 s2.heap ∧ (∀ b ∈ fp, FpOk X pins H' b) ∧ R J H'
def PI (X : Cx) (tg iter : Expr) (wi : TI) : Prop :=
  ∀ (pins : List (Addr × Obj)) (s : Shared) (σ : St) (H : Hp) (R : It → Hp → Prop), Inv X pins σ H s → wi σ H R →
    wpAny (model X.prog X.w) X.A (eval iter X.env) (fun v s1 => wpAny (model X.prog X.w) X.A (pyIter v) (PIE X pins σ tg R) X.xe s1) X.xe s
theorem go_of {M : Model} {A : Around} {E : Value → Shared → Prop} {s : Shared} {tg : Expr} {it : Addr} {u : Value} {o : Obj} {n : String} {vs : Array Value} {Q : Unit → Shared → Prop} (ho : s.heap.get? it = some o) (hc : o.cls = .type n) (hd : o.data = .fields vs)
    (hn : ["enumerate", "zip", "dict_itemiterator", "dict_reverseitemiterator", "odict_iterator", "itertools.zip_longest", "itertools.pairwise"].contains n = false) (hQ : Q () s) : wpAny M A (letOwnedTupleGo tg (.ref it) u) Q E s := by
  unfold letOwnedTupleGo
  cases tg <;> first
    | exact wpAny_pure hQ
    | (cases u <;> first
        | exact wpAny_pure hQ
        | (refine wpAny_bind (wpAny_load ho ?_)
           rw [hc, hd]
           show wpAny M A (if (["enumerate", "zip", "dict_itemiterator", "dict_reverseitemiterator", "odict_iterator", "itertools.zip_longest", "itertools.pairwise"].contains n && vs[0]? == some (rawInt _)) = true then _ else _) Q E s
           rw [if_neg (by intro h; rw [hn, Bool.false_and] at h; cases h)]
           exact wpAny_pure hQ))
def Itl (K : PySem.W.Frag) (a : Addr) : It :=
  ⟨fun i H => ∃ xs x, SqL K H a xs ∧ xs[i]? = some x, fun i H x H' => H' = H ∧ ∀ xs, SqL K H a xs → xs[i]? = some x, fun i H => ∃ xs, SqL K H a xs ∧ xs.length ≤ i⟩
def Itt (K : PySem.W.Frag) (a : Addr) : It :=
  ⟨fun i H => ∃ xs x, SqT K H a xs ∧ xs[i]? = some x, fun i H x H' => H' = H ∧ ∀ xs, SqT K H a xs → xs[i]? = some x, fun i H => ∃ xs, SqT K H a xs ∧ xs.length ≤ i⟩
def Itr (lo : Int) (n : Nat) : It := ⟨fun i _ => i < n, fun i H x H' => H' = H ∧ x = .int (lo + i), fun i _ => n ≤ i⟩
theorem turn_tuple {P : Program} {w : World} {K : PySem.W.Frag} {tg : Expr} (a it : Addr) : Turn P w K tg (Itt K a) [it] it (fun i h => h.IsTupleIter it a i) where
  mem := by simp
  obj := fun i h st b hb => by
    have e : b = it := by simpa using hb
    subst e
    obtain ⟨o, e, c, d⟩ := st
    exact ⟨o, e, fun v z => by rw [d] at z; cases z⟩
  keep := fun i h h' st k => st.at fun o e => k it (by simp) o e
  item := by
    intro X hP hw hK hc i pins s σ H E I hf st hg
    subst hP hw hK
    obtain ⟨xs, x, hq, hx⟩ := hg
    obtain ⟨its, rv, p, hz⟩ := I.tuple hq
    obtain ⟨u, hu, ru⟩ := rv.get hx
    obtain ⟨f0, f1, f2, f3, f4, f5⟩ := hf it (by simp)
    refine wpAny_pyNext_tuple_item st (show s.heap.IsTuple a its.toArray from p) (x := u) (by simpa using hu) fun h' st' sb => ?_
    have I1 : Inv X pins σ H { s with heap := h' } := I.turned (t' := s.toks) (fun b o hb e => (sb.2 b hb).trans e) f0 f1 f3 f4 f5
    obtain ⟨o, e, c, d⟩ := id st'
    exact ⟨u, rfl, go_of (s := { s with heap := h' }) e c d (by decide) ⟨x, H, I1, ru, ⟨rfl, fun ys hy => by rw [I.tuple_inj hy hq]; exact hx⟩, st', fun b hb => (hf b hb).1⟩⟩
  done := by
    intro X hP hw hK hc i pins s σ H E I hf st hg
    subst hP hw hK
    obtain ⟨xs, hq, hx⟩ := hg
    obtain ⟨its, rv, p, hz⟩ := I.tuple hq
    obtain ⟨f0, f1, f2, f3, f4, f5⟩ := hf it (by simp)
    have hl := rv.length
    exact wpAny_pyNext_tuple_end (I.ok.hd hc) st (show s.heap.IsTuple a its.toArray from p) (by simp; omega) fun h' eb => ⟨rfl, I.turned (t' := s.toks) (fun b o hb e => eb b o hb e) f0 f1 f3 f4 f5⟩
  self := fun _ _ _ _ _ st h => wpAny_pyIter_tupleiter st h
theorem turn_range {P : Program} {w : World} {K : PySem.W.Frag} {tg : Expr} (it : Addr) (lo : Int) (n : Nat) : Turn P w K tg (Itr lo n) [it] it (fun i h => IsRangeIter h it (lo + (i : Nat) * 1) ((n : Int) - (i : Nat)) 1) where
  mem := by simp
  obj := fun i h st b hb => by
    have e : b = it := by simpa using hb
    subst e
    exact ⟨_, st, fun v z => by
      have z' : Data.fields _ = Data.cell v := z
      cases z'⟩
  keep := fun i h h' st k => k it (by simp) _ st
  item := by
    intro X hP hw hK hc i pins s σ H E I hf st hg
    subst hP hw hK
    obtain ⟨f0, f1, f2, f3, f4, f5⟩ := hf it (by simp)
    have W := Walks.range (prog := X.prog) (w := X.w) (I.ok.hd hc) it lo 1 n
    refine W.item i s _ _ hg st fun v h' tk hv st' kk => ?_
    obtain ⟨t, rfl⟩ := hv
    have I1 : Inv X pins σ H { s with heap := h', toks := tk } := I.turned (fun b o hb e => kk b o (by simpa using hb) e) f0 f1 f3 f4 f5
    refine ⟨_, rfl, go_of (s := { s with heap := h', toks := tk }) (n := "range_iterator") st' rfl rfl (by decide) ⟨.int (lo + i), H, I1, ⟨t, ?_⟩, ⟨rfl, rfl⟩, st', fun b hb => (hf b hb).1⟩⟩
    rw [Int.mul_one]
  done := by
    intro X hP hw hK hc i pins s σ H E I hf st hg
    subst hP hw hK
    obtain ⟨f0, f1, f2, f3, f4, f5⟩ := hf it (by simp)
    exact wpAny_pyNext_range_end (I.ok.hd hc) st (by have : n ≤ i := hg; omega) fun h' eb => ⟨rfl, I.turned (t' := s.toks) (fun b o hb e => eb b o hb e) f0 f1 f3 f4 f5⟩
  self := fun _ _ _ _ _ st h => wpAny_pyIter_rangeiter st h
end L2
namespace L2
open PySem PySem.Spec PyProof.Rows
section
variable {X : Cx} {tg : Expr}
def iList (K : PySem.W.Frag) (tl : TE) : TI := fun σ H R => tl σ H fun x H1 => ∃ a, x = .ref a ∧ (∃ xs, SqL K H1 a xs) ∧ R (Itl K a) H1
def iTup (K : PySem.W.Frag) (tl : TE) : TI := fun σ H R => tl σ H fun x H1 => ∃ a, x = .ref a ∧ (∃ xs, SqT K H1 a xs) ∧ R (Itt K a) H1
theorem pi_tup {l : Expr} {tl : TE} (hl : PE X l tl) : PI X tg l (iTup X.K tl) := by
  intro pins s σ H R I h
  refine thn (hl pins s σ H _ I h) fun v s1 ⟨x, H1, I1, r1, q1⟩ => ?_
  obtain ⟨a, e, ⟨xs, hq⟩, q⟩ := q1
  subst e
  cases r1
  obtain ⟨its, rv, p, hz⟩ := I1.tuple hq
  refine wpAny_pyIter_tuple (show s1.heap.IsTuple a its.toArray from p) ?_
  refine ⟨s1.heap.objs.size, [s1.heap.objs.size], _, _, H1, rfl, I1.kept (t' := s1.toks) fun b o e => Heap.get?_push_of_some _ e, turn_tuple a _, ⟨_, Heap.get?_push_size _ rfl, rfl, rfl⟩, fun b hb => ?_, q⟩
  have e : b = s1.heap.objs.size := by simpa using hb
  subst e
  exact I1.fpOk (Nat.le_refl _) (I1.hok.fresh (Nat.le_refl _))
theorem range_it {pins : List (Addr × Obj)} {σ : St} {H : Hp} {s : Shared} {R : It → Hp → Prop} {E : Value → Shared → Prop} {lo hi : Int} {t u v : Tok} {tk : Nat} (I : Inv X pins σ H s) (h1 : -(2 ^ 62) ≤ lo) (h2 : lo < 2 ^ 62) (h3 : -(2 ^ 62) ≤ hi) (h4 : hi < 2 ^ 62)
    (q : R (Itr lo (hi - lo).toNat) H) : wpAny (model X.prog X.w) X.A (pyIter (.ref s.heap.objs.size)) (PIE X pins σ tg R) E { s with heap := s.heap.push { cls := .type "range", data := .fields #[.int lo t, .int hi u, .int 1 v] }, toks := tk } := by
  refine wpAny_pyIter_range (IsRange.new ..) (small_one h1 h2 h3 h4) ?_
  have I1 : Inv X pins σ H { s with heap := s.heap.push { cls := .type "range", data := .fields #[.int lo t, .int hi u, .int 1 v] }, toks := tk } := I.kept fun b o e => Heap.get?_push_of_some _ e
  refine ⟨(s.heap.push { cls := .type "range", data := .fields #[.int lo t, .int hi u, .int 1 v] }).objs.size, [(s.heap.push { cls := .type "range", data := .fields #[.int lo t, .int hi u, .int 1 v] }).objs.size], _, _, H, rfl,
    I1.kept (t' := tk) fun b o e => Heap.get?_push_of_some _ e, turn_range _ lo (hi - lo).toNat, ?_, fun b hb => ?_, q⟩
  · have e1 : lo + ((0 : Nat) : Int) * 1 = lo := by simp
    have e2 : (((hi - lo).toNat : Nat) : Int) - ((0 : Nat) : Int) = Builtin.Range.rangeSize lo hi 1 := by rw [rangeSize_one]; split <;> omega
    show IsRangeIter _ _ (lo + ((0 : Nat) : Int) * 1) ((((hi - lo).toNat : Nat) : Int) - ((0 : Nat) : Int)) 1
    rw [e1, e2]
    exact Heap.get?_push_size _ rfl
  · have e : b = (s.heap.push { cls := .type "range", data := .fields #[.int lo t, .int hi u, .int 1 v] }).objs.size := by simpa using hb
    subst e
    exact I1.fpOk (Nat.le_refl _) (I1.hok.fresh (Nat.le_refl _))
def iRng1 (ta : TA) : TI := fun σ H R => ta σ H fun vs H1 => ∃ j : Int, vs = [.int j] ∧ -(2 ^ 62) ≤ j ∧ j < 2 ^ 62 ∧ R (Itr 0 j.toNat) H1
def iRng2 (ta : TA) : TI := fun σ H R => ta σ H fun vs H1 => ∃ i j : Int, vs = [.int i, .int j] ∧ (-(2 ^ 62) ≤ i ∧ i < 2 ^ 62 ∧ -(2 ^ 62) ≤ j ∧ j < 2 ^ 62) ∧ R (Itr i (j - i).toNat) H1
theorem pi_range1 {a : Expr} {ta : TA} {p pos : Pos} (hg : Gl X "range") (hm : X.mg "range" = none) (ha : PA X [a] ta) (hs : starEach [a] X.env = [(false, eval a X.env)] := by rfl) : PI X tg (.Call (.Name "range" p) [a] [] pos) (iRng1 ta) := by
  intro pins s σ H R I h
  refine Call_ (ld_blt I hg hm boot_range (PyProof.Rows.callWith_type1 (thn (ha pos pins s σ H _ I h) fun us s1 ⟨vs, H1, I1, r1, q1⟩ => ?_) hs rfl))
  obtain ⟨j, e, q1, q2, q⟩ := q1
  subst e
  cases r1 with
  | cons r rr =>
    cases rr
    obtain ⟨t, rfl⟩ := r
    exact call_range_1 (range_it I1 (by omega) (by omega) q1 q2 (by simpa using q))
theorem pi_range2 {a b : Expr} {ta : TA} {p pos : Pos} (hg : Gl X "range") (hm : X.mg "range" = none) (ha : PA X [a, b] ta) (hs : starEach [a, b] X.env = [(false, eval a X.env), (false, eval b X.env)] := by rfl) (hs2 : starEach [b] X.env = [(false, eval b X.env)] := by rfl) :
    PI X tg (.Call (.Name "range" p) [a, b] [] pos) (iRng2 ta) := by
  intro pins s σ H R I h
  refine Call_ (ld_blt I hg hm boot_range (PyProof.Rows.callWith_type1 (thn (ha pos pins s σ H _ I h) fun us s1 ⟨vs, H1, I1, r1, q1⟩ => ?_) (by rw [hs, hs2]) (by rw [hs2]; rfl)))
  obtain ⟨i, j, e, ⟨q1, q2, q3, q4⟩, q⟩ := q1
  subst e
  cases r1 with
  | cons r rr =>
    cases rr with
    | cons r' rr =>
      cases rr
      obtain ⟨t, rfl⟩ := r
      obtain ⟨t', rfl⟩ := r'
      exact call_range_2 (range_it I1 q1 q2 q3 q4 q)
def tFor (wi : TI) (g : TG) (tb : TS) : TS := fun D σ H => wi σ H fun J H1 => ∃ W : Nat → Nat → St → Hp → Prop, (∃ m, W 0 m σ H1) ∧ ∀ i m σ H, W i m σ H →
  (J.stop i H ∧ D.nx σ H) ∨ (J.go i H ∧ ∃ N : St → Hp → Prop, (∀ σ' H', N σ' H' → ∃ m', m' < m ∧ W (i + 1) m' σ' H') ∧ ∀ x H', J.yld i H x H' → g x σ H' fun σ2 H2 => tb { D with nx := N, ct := N, bk := D.nx } σ2 H2)
def pinsAt (fp : List Addr) (h : Heap) : List (Addr × Obj) := fp.filterMap fun b => (h.get? b).map fun o => (b, o)
theorem mem_pinsAt {fp : List Addr} {h : Heap} {b : Addr} {o : Obj} (hb : b ∈ fp) (e : h.get? b = some o) : (b, o) ∈ pinsAt fp h := List.mem_filterMap.mpr ⟨b, hb, by rw [e]; rfl⟩
theorem of_pinsAt {fp : List Addr} {h : Heap} {p : Addr × Obj} (hp : p ∈ pinsAt fp h) : p.1 ∈ fp ∧ h.get? p.1 = some p.2 := by
  obtain ⟨b, hb, e⟩ := List.mem_filterMap.mp hp
  cases q : h.get? b with
  | none => rw [q] at e; cases e
  | some o =>
    rw [q] at e
    have e' : (b, o) = p := Option.some.inj e
    subst e'
    exact ⟨hb, q⟩
theorem Inv.pinned {pins : List (Addr × Obj)} {σ : St} {H : Hp} {s : Shared} {fp : List Addr} (I : Inv X pins σ H s) (hf : ∀ b ∈ fp, FpOk X pins H b) (ho : ∀ b ∈ fp, ∃ o, s.heap.get? b = some o ∧ ∀ v, o.data ≠ .cell v) : Inv X (pins ++ pinsAt fp s.heap) σ H s :=
  I.pins_of fun p hp => (List.mem_append.mp hp).elim (fun z => I.pin p (List.mem_append_right _ z)) fun z => by
    obtain ⟨hb, e⟩ := of_pinsAt z
    obtain ⟨f0, f1, f2, _⟩ := hf p.1 hb
    obtain ⟨o, e', d⟩ := ho p.1 hb
    rw [e] at e'; cases e'
    exact ⟨e, f0, f1, f2, d⟩
theorem Inv.unpinned {pins pl : List (Addr × Obj)} {σ : St} {H : Hp} {s : Shared} (I : Inv X (pins ++ pl) σ H s) : Inv X pins σ H s := I.pins_of fun p hp => I.pin p (List.mem_append_right _ (List.mem_append_left _ hp))
theorem ps_for {iter : Expr} {body : List Stmt} {wi : TI} {g : TG} {tb : TS} {pos : Pos} (hp : PassesOwn (model X.prog X.w) X.A X.env X.xe) (hc : X.calm = true) (hi : PI X tg iter wi) (hg : PG X tg g) (hb : PSs X body tb)
    (hs : ∀ x, foldedSetIterable iter X.env x = pure x := by intro _; rfl) : PS X (.For tg iter body [] pos) (tFor wi g tb) := by
  intro pins s σ H D I h
  refine wpAny_For (thn (hi pins s σ H _ I h) fun v s1 h1 => thn h1 fun itv s2 h2 => ?_) hs
  obtain ⟨it, fp, tn, J, H2, e, I2, T, st2, f2, W, ⟨m0, w0⟩, turn⟩ := h2
  subst e
  have stat : ∀ {H' : Hp}, (∀ b ∈ fp, H' b = none) → ∀ b ∈ fp, FpOk X pins H' b := fun hn b hb => ⟨hn b hb, (f2 b hb).2⟩
  refine codeAny_forLoop_any (fun n s' => ∃ i σ' H', Inv X pins σ' H' s' ∧ tn i s'.heap ∧ (∀ b ∈ fp, H' b = none) ∧ W i n σ' H') ?_ m0 ⟨0, σ, H2, I2, st2, fun b hb => (f2 b hb).1, w0⟩
  rintro n s3 ⟨i, σ3, H3, I3, st3, fr3, w3⟩
  rcases turn i n σ3 H3 w3 with ⟨stop, qn⟩ | ⟨go, N, hN, step⟩
  · refine wpAny_passesOwn hp (thn (T.done X rfl rfl rfl hc i pins s3 σ3 H3 X.xe I3 (stat fr3) st3 stop) fun r s4 ⟨hr, I4⟩ => ?_)
    subst hr
    exact wpAny_execs_nil ⟨σ3, H3, I4, qn⟩
  · refine wpAny_passesOwn hp (thn (T.item X rfl rfl rfl hc i pins s3 σ3 H3 X.xe I3 (stat fr3) st3 go) fun r s4 ⟨u, hr, h4⟩ => ?_)
    subst hr
    refine wpAny_passesOwn hp (thn h4 fun _ s5 ⟨x, H5, I5, r5, y5, st5, fr5⟩ => ?_)
    have I5' := I5.pinned (stat fr5) (T.obj _ _ st5)
    refine wpAny_passesOwn hp (thn (hg _ s5 σ3 H5 x u _ I5' r5 (step x H5 y5)) fun _ s6 ⟨σ6, H6, I6, q6⟩ => ?_)
    refine wpAny_passesOwn hp (thn (hb _ s6 σ6 H6 _ I6 q6) fun f s7 q7 => ?_)
    have again : ∀ {σ7 : St} {H7 : Hp}, Inv X (pins ++ pinsAt fp s5.heap) σ7 H7 s7 → N σ7 H7 → ∃ m, m < n ∧ ∃ i σ' H', Inv X pins σ' H' s7 ∧ tn i s7.heap ∧ (∀ b ∈ fp, H' b = none) ∧ W i m σ' H' := fun {σ7 H7} I7 n7 => by
      obtain ⟨m', hm, w7⟩ := hN σ7 H7 n7
      refine ⟨m', hm, i + 1, σ7, H7, I7.unpinned, T.keep _ _ _ st5 fun b hb o e => (I7.pin (b, o) (List.mem_append_right _ (List.mem_append_right _ (mem_pinsAt hb e)))).1, fun b hb => ?_, w7⟩
      obtain ⟨o, e, d⟩ := T.obj _ _ st5 b hb
      exact (I7.pin (b, o) (List.mem_append_right _ (List.mem_append_right _ (mem_pinsAt hb e)))).2.1
    cases f with
    | next => obtain ⟨σ7, H7, I7, n7⟩ := q7; exact again I7 n7
    | cont => obtain ⟨σ7, H7, I7, n7⟩ := q7; exact again I7 n7
    | brk => obtain ⟨σ7, H7, I7, q7⟩ := q7; exact ⟨σ7, H7, I7.unpinned, q7⟩
    | ret v => obtain ⟨x7, σ7, H7, I7, r7, q7⟩ := q7; exact ⟨x7, σ7, H7, I7.unpinned, r7, q7⟩
end
theorem for_range {lo : Int} {n : Nat} {g : TG} {tb : TS} {D : Ends} {σ : St} {H : Hp} (Pv : Nat → St → Hp → Prop) (h0 : Pv 0 σ H)
    (hs : ∀ i σ H, i < n → Pv i σ H → g (.int (lo + i)) σ H fun σ2 H2 => tb { D with nx := Pv (i + 1), ct := Pv (i + 1), bk := D.nx } σ2 H2) (hd : ∀ σ H, Pv n σ H → D.nx σ H) :
    ∃ W : Nat → Nat → St → Hp → Prop, (∃ m, W 0 m σ H) ∧ ∀ i m σ H, W i m σ H →
      ((Itr lo n).stop i H ∧ D.nx σ H) ∨ ((Itr lo n).go i H ∧ ∃ N : St → Hp → Prop, (∀ σ' H', N σ' H' → ∃ m', m' < m ∧ W (i + 1) m' σ' H') ∧ ∀ x H', (Itr lo n).yld i H x H' → g x σ H' fun σ2 H2 => tb { D with nx := N, ct := N, bk := D.nx } σ2 H2) := by
  refine ⟨fun i m σ H => m = n - i ∧ i ≤ n ∧ Pv i σ H, ⟨n, by simp, Nat.zero_le _, h0⟩, ?_⟩
  rintro i m σ H ⟨rfl, hi, p⟩
  by_cases hlt : i < n
  · refine .inr ⟨hlt, Pv (i + 1), fun σ' H' p' => ⟨n - (i + 1), by omega, rfl, hlt, p'⟩, fun x H' y => ?_⟩
    obtain ⟨e, y⟩ := y
    subst e y
    exact hs i σ _ hlt p
  · have e : i = n := by omega
    subst e
    exact .inl ⟨Nat.le_refl _, hd σ H p⟩
end L2
namespace L2
open PySem PySem.Spec PyProof.Rows
abbrev R2 := V → V → Hp → VK → Prop
def OpR (X : Cx) (f : Value → Value → Sem Value) (r : R2) : Prop :=
  ∀ (pins : List (Addr × Obj)) (s : Shared) (σ : St) (H : Hp) (x y : V) (v u : Value) (Q : VK), Inv X pins σ H s → RelV x v → RelV y u → r x y H Q →
    wpAny (model X.prog X.w) X.A (f v u) (EP X pins σ Q) X.xe s
def UnR (X : Cx) (f : Value → Sem Value) (r : V → Hp → VK → Prop) : Prop :=
  ∀ (pins : List (Addr × Obj)) (s : Shared) (σ : St) (H : Hp) (x : V) (v : Value) (Q : VK), Inv X pins σ H s → RelV x v → r x H Q →
    wpAny (model X.prog X.w) X.A (f v) (EP X pins σ Q) X.xe s
def CallR (X : Cx) (f : Value) (r : List V → Hp → VK → Prop) : Prop :=
  ∀ (pins : List (Addr × Obj)) (s : Shared) (σ : St) (H : Hp) (xs : List V) (us : List Value) (Q : VK), Inv X pins σ H s → Vals xs us → r xs H Q →
    wpAny (model X.prog X.w) X.A (call f us) (EP X pins σ Q) X.xe s
def tOp (r : R2) (ta tb : TE) : TE := fun σ H Q => ta σ H fun x H1 => tb σ H1 fun y H2 => r x y H2 Q
def tUn (r : V → Hp → VK → Prop) (ta : TE) : TE := fun σ H Q => ta σ H fun x H1 => r x H1 Q
def rI (C : Int → Int → Prop) (g : Int → Int → V) : R2 := fun x y H Q => ∃ i j, x = .int i ∧ y = .int j ∧ C i j ∧ Q (g i j) H
def rI0 (g : Int → Int → V) : R2 := fun x y H Q => ∃ i j, x = .int i ∧ y = .int j ∧ Q (g i j) H
def rU (g : Int → V) : V → Hp → VK → Prop := fun x H Q => ∃ i, x = .int i ∧ Q (g i) H
section
variable {X : Cx} {a b c : Expr} {ta tb tc : TE} {pos : Pos}
theorem binT (ha : PE X a ta) (hb : PE X b tb) {pins : List (Addr × Obj)} {s : Shared} {σ : St} {H : Hp} {R : V → V → Hp → Prop} (I : Inv X pins σ H s)
    (h : ta σ H fun x H1 => tb σ H1 fun y H2 => R x y H2) {Q : Value → Shared → Prop} {f : Value → Value → Sem Value}
    (hf : ∀ v u s2 x y H2, Inv X pins σ H2 s2 → RelV x v → RelV y u → R x y H2 → wpAny (model X.prog X.w) X.A (f v u) Q X.xe s2) :
    wpAny (model X.prog X.w) X.A (eval a X.env) (fun v s₁ => wpAny (model X.prog X.w) X.A (eval b X.env) (fun u s₂ => wpAny (model X.prog X.w) X.A (f v u) Q X.xe s₂) X.xe s₁) X.xe s := by
  refine thn (ha pins s σ H _ I h) fun v s1 ⟨x, H1, I1, r1, q1⟩ => ?_
  refine thn (hb pins s1 σ H1 _ I1 q1) fun u s2 ⟨y, H2, I2, r2, q2⟩ => ?_
  exact hf v u s2 x y H2 I2 r1 r2 q2
theorem pe_op {op : Operator} {r : R2} (ho : OpR X (binaryOp op) r) (ha : PE X a ta) (hb : PE X b tb) : PE X (.BinOp a op b pos) (tOp r ta tb) := by
  intro pins s σ H Q I h
  exact wpAny_BinOp (binT ha hb I h fun v u s2 x y H2 I2 rx ry q => ho pins s2 σ H2 x y v u Q I2 rx ry q)
theorem pe_un {op : UnaryOp} {r : V → Hp → VK → Prop} (ho : UnR X (unaryOp op) r) (ha : PE X a ta) : PE X (.UnaryOp op a pos) (tUn r ta) := by
  intro pins s σ H Q I h
  exact UnaryOp_ (thn (ha pins s σ H _ I h) fun v s1 ⟨x, H1, I1, r1, q1⟩ => ho pins s1 σ H1 x v Q I1 r1 q1)
theorem opI {f : Value → Value → Sem Value} {C : Int → Int → Prop} {g : Int → Int → Int}
    (rule : ∀ (i j : Int) (t u : Tok) (s : Shared) (Q : Value → Shared → Prop) (E : Value → Shared → Prop), C i j → Q (.int (g i j) s.toks) { s with toks := s.toks + 1 } → wpAny (model X.prog X.w) X.A (f (.int i t) (.int j u)) Q E s) :
    OpR X f (rI C fun i j => .int (g i j)) := by
  intro pins s σ H x y v u Q I rx ry h
  obtain ⟨i, j, rfl, rfl, hc, q⟩ := h
  obtain ⟨t, rfl⟩ := rx
  obtain ⟨t', rfl⟩ := ry
  exact rule i j t t' s _ _ hc ⟨.int (g i j), H, I.tok _, ⟨_, rfl⟩, q⟩
theorem opI0 {f : Value → Value → Sem Value} {g : Int → Int → Int}
    (rule : ∀ (i j : Int) (t u : Tok) (s : Shared) (Q : Value → Shared → Prop) (E : Value → Shared → Prop), Q (.int (g i j) s.toks) { s with toks := s.toks + 1 } → wpAny (model X.prog X.w) X.A (f (.int i t) (.int j u)) Q E s) :
    OpR X f (rI0 fun i j => .int (g i j)) := by
  intro pins s σ H x y v u Q I rx ry h
  obtain ⟨i, j, rfl, rfl, q⟩ := h
  obtain ⟨t, rfl⟩ := rx
  obtain ⟨t', rfl⟩ := ry
  exact rule i j t t' s _ _ ⟨.int (g i j), H, I.tok _, ⟨_, rfl⟩, q⟩
theorem opB0 {f : Value → Value → Sem Value} {g : Int → Int → Bool}
    (rule : ∀ (i j : Int) (t u : Tok) (s : Shared) (Q : Value → Shared → Prop) (E : Value → Shared → Prop), Q (.bool (g i j)) s → wpAny (model X.prog X.w) X.A (f (.int i t) (.int j u)) Q E s) :
    OpR X f (rI0 fun i j => .bl (g i j)) := by
  intro pins s σ H x y v u Q I rx ry h
  obtain ⟨i, j, rfl, rfl, q⟩ := h
  obtain ⟨t, rfl⟩ := rx
  obtain ⟨t', rfl⟩ := ry
  exact rule i j t t' s _ _ ⟨.bl (g i j), H, I, rfl, q⟩
def CDiv (i j : Int) : Prop := 0 < j ∧ j < 1073741824
def CPow (i j : Int) : Prop := 0 ≤ j ∧ j ≤ 1000000 ∧ i.natAbs < 2 ^ 64
def CMul (i j : Int) : Prop := (-(2 ^ 64) < i ∧ i < 2 ^ 64) ∨ (-(2 ^ 64) < j ∧ j < 2 ^ 64)
theorem CMul.ok {i j : Int} (h : CMul i j) : IntMulOk i j := by
  rcases h with ⟨h1, h2⟩ | ⟨h1, h2⟩
  · exact .of_left (intBits_le_64 h1 h2)
  · exact .of_right (intBits_le_64 h1 h2)
theorem op_add : OpR X (binaryOp .Add) (rI0 fun i j => .int (i + j)) := opI0 fun _ _ _ _ _ _ _ q => add_int q
theorem op_sub : OpR X (binaryOp .Sub) (rI0 fun i j => .int (i - j)) := opI0 fun _ _ _ _ _ _ _ q => sub_int q
theorem op_mul : OpR X (binaryOp .Mult) (rI CMul fun i j => .int (i * j)) := opI fun _ _ _ _ _ _ _ hc q => mul_int q hc.ok
theorem op_fdiv : OpR X (binaryOp .FloorDiv) (rI CDiv fun i j => .int (i / j)) := opI fun i j _ _ _ _ _ hc q => by
  have h1 : (0 : Int) < j := hc.1
  have h2 : j < 1073741824 := hc.2
  exact floordiv_int (by omega) (by rw [Int.fdiv_eq_ediv_of_nonneg i (by omega)]; exact q) (.inl (PyProof.noPylong_small (by omega)))
theorem op_mod : OpR X (binaryOp .Mod) (rI (fun _ j => 0 < j) fun i j => .int (i % j)) := opI fun i j _ _ _ _ _ hc q => by
  have h1 : (0 : Int) < j := hc
  exact mod_int' (by omega) (by rw [Int.fmod_eq_emod_of_nonneg i (by omega)]; exact q)
theorem op_pow : OpR X (binaryOp .Pow) (rI CPow fun i j => .int (i ^ j.toNat)) := opI fun _ _ _ _ _ _ _ hc q => pow_int_small hc.1 hc.2.1 hc.2.2 q
theorem unI {f : Value → Sem Value} {g : Int → Int}
    (rule : ∀ (i : Int) (t : Tok) (s : Shared) (Q : Value → Shared → Prop) (E : Value → Shared → Prop), Q (.int (g i) s.toks) { s with toks := s.toks + 1 } → wpAny (model X.prog X.w) X.A (f (.int i t)) Q E s) :
    UnR X f (rU fun i => .int (g i)) := by
  intro pins s σ H x v Q I rx h
  obtain ⟨i, rfl, q⟩ := h
  obtain ⟨t, rfl⟩ := rx
  exact rule i t s _ _ ⟨.int (g i), H, I.tok _, ⟨_, rfl⟩, q⟩
theorem un_neg : UnR X (unaryOp .USub) (rU fun i => .int (-i)) := unI fun _ _ _ _ _ q => neg_int q
end
def scal : V → V → Bool
  | .non, .non => true | .non, .int _ => true | .int _, .non => true | .non, .bl _ => true | .bl _, .non => true | .non, .str _ => true | .str _, .non => true
  | .int _, .int _ => true | .bl _, .bl _ => true | .str _, .str _ => true | .byt _, .byt _ => true
  | .int _, .str _ => true | .str _, .int _ => true | .bl _, .str _ => true | .str _, .bl _ => true
  | _, _ => false
def rEq : R2 := fun x y H Q => scal x y = true ∧ Q (.bl (decide (x = y))) H
def rNe : R2 := fun x y H Q => scal x y = true ∧ Q (.bl (!decide (x = y))) H
theorem dec_int {i j : Int} : decide (V.int i = V.int j) = (i == j) := by
  rw [Bool.eq_iff_iff]
  simp
theorem dec_bl {i j : Bool} : decide (V.bl i = V.bl j) = (i == j) := by
  rw [Bool.eq_iff_iff]
  simp
theorem dec_str {i j : Str} : decide (V.str i = V.str j) = (i == j) := by
  rw [Bool.eq_iff_iff]
  simp
theorem dec_byt {i j : Array UInt8} : decide (V.byt i = V.byt j) = (i.toList == j.toList) := by
  rw [Bool.eq_iff_iff]
  cases i
  cases j
  simp
section
variable {X : Cx} {a b c : Expr} {ta tb tc : TE} {pos : Pos}
theorem fin_bl {pins : List (Addr × Obj)} {σ : St} {H : Hp} {s : Shared} {Q : VK} {k k' : Bool} (I : Inv X pins σ H s) (q : Q (.bl k) H) (e : k = k') : EP X pins σ Q (.bool k') s := by
  subst e
  exact ⟨.bl k, H, I, rfl, q⟩
theorem op_eq : OpR X (compareOp .Eq) rEq := by
  intro pins s σ H x y v u Q I rx ry h
  obtain ⟨hs, q⟩ := h
  cases x with
  | non =>
    cases rx
    cases y with
    | non => cases ry; exact PySem.EqNone.eq_none_none (fin_bl I q (by simp))
    | bl j => cases ry; exact PySem.EqNone.eq_none_bool (fin_bl I q (by simp))
    | int j => obtain ⟨t', rfl⟩ := ry; exact PySem.EqNone.eq_none_int (fin_bl I q (by simp))
    | str j => obtain ⟨t', rfl⟩ := ry; exact PySem.EqNone.eq_none_str (fin_bl I q (by simp))
    | _ => exact absurd (show false = true from hs) Bool.false_ne_true
  | bl i =>
    cases rx
    cases y with
    | non => cases ry; exact PySem.EqNone.eq_bool_none (fin_bl I q (by simp))
    | bl j => cases ry; exact eq_bool (fin_bl I q dec_bl)
    | str j => obtain ⟨t', rfl⟩ := ry; exact PySem.EqMixed.eq_bool_str (fin_bl I q (by simp))
    | _ => exact absurd (show false = true from hs) Bool.false_ne_true
  | int i =>
    obtain ⟨t, rfl⟩ := rx
    cases y with
    | non => cases ry; exact PySem.EqNone.eq_int_none (fin_bl I q (by simp))
    | int j => obtain ⟨t', rfl⟩ := ry; exact eq_int (fin_bl I q dec_int)
    | str j => obtain ⟨t', rfl⟩ := ry; exact PySem.EqMixed.eq_int_str (fin_bl I q (by simp))
    | _ => exact absurd (show false = true from hs) Bool.false_ne_true
  | str i =>
    obtain ⟨t, rfl⟩ := rx
    cases y with
    | non => cases ry; exact PySem.EqNone.eq_str_none (fin_bl I q (by simp))
    | bl j => cases ry; exact PySem.EqMixed.eq_str_bool (fin_bl I q (by simp))
    | int j => obtain ⟨t', rfl⟩ := ry; exact PySem.EqMixed.eq_str_int (fin_bl I q (by simp))
    | str j => obtain ⟨t', rfl⟩ := ry; exact eq_str (fin_bl I q dec_str)
    | _ => exact absurd (show false = true from hs) Bool.false_ne_true
  | byt i =>
    obtain ⟨t, rfl⟩ := rx
    cases y with
    | byt j => obtain ⟨t', rfl⟩ := ry; exact PySem.W.eq_bytes (fin_bl I q dec_byt)
    | _ => exact absurd (show false = true from hs) Bool.false_ne_true
  | _ => cases y <;> exact absurd (show false = true from hs) Bool.false_ne_true
theorem op_lt : OpR X (compareOp .Lt) (rI0 fun i j => .bl (decide (i < j))) := opB0 fun _ _ _ _ _ _ _ q => lt_int q
theorem op_le : OpR X (compareOp .LtE) (rI0 fun i j => .bl (decide (i ≤ j))) := opB0 fun _ _ _ _ _ _ _ q => le_int q
theorem op_gt : OpR X (compareOp .Gt) (rI0 fun i j => .bl (decide (j < i))) := opB0 fun _ _ _ _ _ _ _ q => gt_int q
theorem op_in_str : OpR X (compareOp .In) (fun x y H Q => ∃ i j, x = .str i ∧ y = .str j ∧ Q (.bl (!(Builtin.Str.occurrences j i 0 j.length 1).isEmpty)) H) := by
  intro pins s σ H x y v u Q I rx ry h
  obtain ⟨i, j, rfl, rfl, q⟩ := h
  obtain ⟨t, rfl⟩ := rx
  obtain ⟨t', rfl⟩ := ry
  exact in_str (fin_bl I q rfl)
theorem nomark (b : Expr) {op : CmpOp} (h : op ≠ .In := by decide) (h2 : op ≠ .NotIn := by decide) : behindInMarks op b = false := by
  have e1 : (op == CmpOp.In) = false := by cases op <;> first | rfl | exact absurd rfl h
  have e2 : (op == CmpOp.NotIn) = false := by cases op <;> first | rfl | exact absurd rfl h2
  cases b <;> simp [behindInMarks, e1, e2]
theorem pe_cmpR {op : CmpOp} {r : R2} (ho : OpR X (compareOp op) r) (ha : PE X a ta) (hb : PE X b tb) (hm : behindInMarks op b = false) : PE X (.Compare a [op] [b] pos) (tOp r ta tb) := by
  intro pins s σ H Q I h
  exact wpAny_Compare1 (binT ha hb I h fun v u s2 x y H2 I2 rx ry q => ho pins s2 σ H2 x y v u Q I2 rx ry q) hm
def tTest (t : TE) : TT := fun σ H Q => t σ H fun x H' => ∃ k, x = .bl k ∧ Q k H'
theorem pt_cmpR {op : CmpOp} {r : R2} (ho : OpR X (compareOp op) r) (ha : PE X a ta) (hb : PE X b tb) (hm : behindInMarks op b = false) : PT X (.Compare a [op] [b] pos) (tTest (tOp r ta tb)) := by
  intro pins s σ H Q I h
  refine wpAny_isTrue_Compare1 (thn (ha pins s σ H _ I h) fun v s1 ⟨x, H1, I1, r1, q1⟩ => thn (hb pins s1 σ H1 _ I1 q1) fun u s2 ⟨y, H2, I2, r2, q2⟩ =>
    thn (ho pins s2 σ H2 x y v u _ I2 r1 r2 q2) fun c s3 ⟨z, H3, I3, r3, k, e, q3⟩ => ?_) hm
  subst e
  cases r3
  exact wpAny_truthy_bool ⟨H3, I3, q3⟩
def tChain (r r' : R2) (ta tb tc : TE) : TE := fun σ H Q => ta σ H fun x H1 => tb σ H1 fun y H2 => r x y H2 fun z H3 => ∃ k, z = .bl k ∧
  (if k = true then tc σ H3 fun w' H4 => r' y w' H4 Q else Q (.bl false) H3)
theorem pt_chain {op op' : CmpOp} {r r' : R2} (ho : OpR X (compareOp op) r) (ho' : OpR X (compareOp op') r') (ha : PE X a ta) (hb : PE X b tb) (hc : PE X c tc)
    (hm : lastMarks [op, op'] [b, c] = false := by with_unfolding_all rfl) : PT X (.Compare a [op, op'] [b, c] pos) (tTest (tChain r r' ta tb tc)) := by
  intro pins s σ H Q I h
  refine isTrue_chain (thn (ha pins s σ H _ I h) fun v s1 ⟨x, H1, I1, r1, q1⟩ => test_link (thn (hb pins s1 σ H1 _ I1 q1) fun u s2 ⟨y, H2, I2, r2, q2⟩ =>
    thn (ho pins s2 σ H2 x y v u _ I2 r1 r2 q2) fun d s3 ⟨z, H3, I3, r3, k, e, q3⟩ => ?_)) hm
  subst e
  cases r3
  refine wpAny_truthy_bool ?_
  cases k with
  | false =>
    obtain ⟨k', e', q'⟩ := q3
    cases e'
    exact ite_ff ⟨H3, I3, q'⟩
  | true =>
    refine ite_tt (test_last (thn (hc pins s3 σ H3 _ I3 q3) fun w' s4 ⟨z', H4, I4, r4, q4⟩ => thn (ho' pins s4 σ H4 y z' u w' _ I4 r2 r4 q4) fun d' s5 ⟨z2, H5, I5, r5, k2, e2, q5⟩ => ?_))
    subst e2
    cases r5
    exact wpAny_truthy_bool ⟨H5, I5, q5⟩
theorem line63 : (sizeLine : Nat) < 2 ^ 63 := by rw [sizeLine_eq]; decide
theorem op_add_str : OpR X (binaryOp .Add) (fun x y H Q => ∃ i j, x = .str i ∧ y = .str j ∧ i.length + j.length ≤ sizeLine ∧ Q (.str (i ++ j)) H) := by
  intro pins s σ H x y v u Q I rx ry h
  obtain ⟨i, j, rfl, rfl, hz, q⟩ := h
  obtain ⟨t, rfl⟩ := rx
  obtain ⟨t', rfl⟩ := ry
  exact add_str (fun t' tk => ⟨.str (i ++ j), H, I.tok _, ⟨_, rfl⟩, q⟩) hz
theorem vals1 {x : V} {us : List Value} (r : Vals [x] us) : ∃ u, us = [u] ∧ RelV x u := by
  cases r with
  | cons r1 r2 => cases r2; exact ⟨_, rfl, r1⟩
theorem vals2 {x y : V} {us : List Value} (r : Vals [x, y] us) : ∃ u w', us = [u, w'] ∧ RelV x u ∧ RelV y w' := by
  cases r with
  | cons r1 r2 =>
    cases r2 with
    | cons r3 r4 => cases r4; exact ⟨_, _, rfl, r1, r3⟩
theorem call_min2 (hc : X.calm = true) : CallR X (.builtin "min") (fun xs H Q => ∃ i j, xs = [.int i, .int j] ∧ Q (.int (if j < i then j else i)) H) := by
  intro pins s σ H xs us Q I r h
  obtain ⟨i, j, rfl, q⟩ := h
  obtain ⟨u, w', rfl, ⟨t, rfl⟩, ⟨t', rfl⟩⟩ := vals2 r
  refine min_two_ints (I.ok.hd hc) fun h' tk k => ⟨_, H, I.kept k, ?_, q⟩
  by_cases hj : j < i
  · rw [if_pos hj, if_pos hj]; exact ⟨_, rfl⟩
  · rw [if_neg hj, if_neg hj]; exact ⟨_, rfl⟩
theorem call_int1 : CallR X (.type "int") (fun xs H Q => (∃ i, xs = [.int i] ∧ Q (.int i) H) ∨ ∃ k, xs = [.bl k] ∧ Q (.int (if k then 1 else 0)) H) := by
  intro pins s σ H xs us Q I r h
  rcases h with ⟨i, rfl, q⟩ | ⟨k, rfl, q⟩
  · obtain ⟨u, rfl, t, rfl⟩ := vals1 r
    exact call_int_int ⟨.int i, H, I, ⟨_, rfl⟩, q⟩
  · obtain ⟨u, rfl, r1⟩ := vals1 r
    cases r1
    exact call_int_bool ⟨.int (if k then 1 else 0), H, I.tok _, ⟨_, rfl⟩, q⟩
theorem call_str_int : CallR X (.type "str") (fun xs H Q => ∃ i, xs = [.int i] ∧ i.natAbs.log2 < 1920 ∧ Q (.str (toString i)) H) := by
  intro pins s σ H xs us Q I r h
  obtain ⟨i, rfl, hz, q⟩ := h
  obtain ⟨u, rfl, t, rfl⟩ := vals1 r
  exact PySem.P.str_of_int hz ⟨.str _, H, I.tok _, ⟨_, rfl⟩, q⟩
end
end L2
namespace L2
open PySem PySem.Spec PyProof.Rows
structure ObjM (h : Heap) (x dx C : Addr) (mA : Str → Option Value) : Prop where
  obj : h.get? x = some (PySem.W.instObj C dx)
  ns : h.Ns1 dx mA
  ne : dx ≠ x
theorem lookIn_ns {h : Heap} {dx : Addr} {mA : Str → Option Value} (n : h.Ns1 dx mA) : ∃ od, h.get? dx = some od ∧ ∀ name, PySem.W.lookIn name od = some (mA name) := by
  obtain ⟨o, es, ep, ho, hd, hk, _, hm⟩ := n
  refine ⟨o, ho, fun name => ?_⟩
  have e := hm name
  unfold nsFind findBy at e
  rw [← Array.find?_toList] at e
  unfold PySem.W.lookIn
  rw [hd]
  dsimp only
  split
  · rename_i y q
    rw [q] at e
    exact congrArg some e
  · rename_i q
    rw [q] at e
    have a : es.toList.any (·.refKey) = false := by
      rw [List.any_eq_false]
      intro y hy
      obtain ⟨z, t, hkey⟩ := hk y (Array.mem_toList_iff.mp hy)
      simp [DictEntry.refKey, hkey]
    have a' : ¬ es.toList.any (·.refKey) = true := by rw [a]; exact Bool.false_ne_true
    rw [if_neg a']
    exact congrArg some e
theorem ObjM.look {h : Heap} {x dx C : Addr} {mA : Str → Option Value} (I : ObjM h x dx C mA) : ∃ od, PySem.W.InstAt h x (PySem.W.instObj C dx) C (some od) ∧ ∀ name, PySem.W.lookIn name od = some (mA name) :=
  let ⟨od, ho, hl⟩ := lookIn_ns I.ns
  ⟨od, ⟨I.obj, rfl, rfl, ho⟩, hl⟩
section
variable {prog : Program} {w : World} {A : Around} {E : Value → Shared → Prop} {s : Shared} {K : PySem.W.Frag} {x dx C f : Addr} {mA : Str → Option Value} {name : Str} {v : Value}
theorem get_map {expr : Bool} {Q : Value → Shared → Prop} (X : K.In s.heap) (I : ObjM s.heap x dx C mA) (hg : PySem.W.plainGet K C name = true) (hh : PySem.W.hasDictIn K C = true)
    (ha : PySem.W.findIn K (.ref C) name = some none) (hv : mA name = some v) (hv' : PySem.W.handedIn v = true) (h : Q v { s with toks := s.toks + 1 }) :
    wpAny (model prog w) A (getAttr (.ref x) name expr) Q E s := by
  obtain ⟨od, J, hl⟩ := I.look
  exact PySem.W.get_value X J (PySem.W.plainGet_of hg).1 (PySem.W.findObj_own hh ha rfl (by rw [hl, hv])) hv' h
theorem get_meth {pl : Sem Bool} {Q : Value × List Value → Shared → Prop} (X : K.In s.heap) (I : ObjM s.heap x dx C mA) (hg : PySem.W.plainGet K C name = true)
    (hf : PySem.W.findIn K (.ref C) name = some (some (.ref f))) (ht : PySem.W.isFn K (.ref f) = true) (hv : mA name = none) (h : Q (.ref f, [.ref x]) s) :
    wpAny (model prog w) A (getMethod (.ref x) name pl) Q E s := by
  obtain ⟨od, J, hl⟩ := I.look
  exact PySem.W.method_fn X J (PySem.W.plainGet_of hg).1 (PySem.W.plainGet_of hg).2 hf (beq_iff_eq.mp ht) (by show (PySem.W.lookIn name od).map (·.isSome) = some false; rw [hl, hv]; rfl) h
theorem set_map {ns : List Str} {Q : Unit → Shared → Prop} (X : K.In s.heap) (I : ObjM s.heap x dx C mA)
    (hs : PySem.W.findIn K (.ref C) "__setattr__" = some (some (.builtin "object.__setattr__"))) (hp : PySem.W.plainOver K C = true) (ht : PySem.W.takerIn K C name = some none) (hh : PySem.W.hasDictIn K C = true)
    (hw : PySem.Within mA ns) (hsz : ns.length ≤ sizeLine)
    (h : ∀ h', ObjM h' x dx C (fun y => if y = name then some v else mA y) → Heap.SameBut dx s.heap h' → Q () { s with heap := h', toks := s.toks + 2 }) :
    wpAny (model prog w) A (setAttr (.ref x) name v) Q E s := by
  obtain ⟨od, J, hl⟩ := I.look
  refine PySem.W.set_plain X J hs (PySem.W.osa_open (s := { s with toks := s.toks + 1 }) (r := none) X J hp ht fun b => ?_)
  obtain ⟨cd, hc, hd'⟩ := PySem.W.any_some hh
  have hx : s.heap.get? x = some ⟨.ref C, some dx, .plain, #[]⟩ := I.obj
  refine wpAny_bind (wpAny_pure (wpAny_bind (wpAny_bind (wpAny_loadPart hx (wpAny_bind (PySem.W.Looks.here (s := { s with toks := s.toks + 1 }) (PySem.W.looks_clsIn X hc) ?_))))))
  rw [hd']
  refine wpAny_pure (a := some dx) (wpAny_bind (wpAny_pure (wpAny_bind ?_)))
  refine wpAny_nsSet1 (s := { s with toks := s.toks + 1 }) I.ns fun h' hn2 hs2 => ?_
  obtain ⟨oD, esD, epD, hoD, hdD, hcD⟩ := hn2.count (PySem.Within.cons name v hw)
  refine wpAny_bind (wpAny_lookBehind hoD (by rw [hdD]; exact pastItsLine_dict (Nat.le_trans hcD (by rw [List.length_cons]; omega))) ?_)
  exact wpAny_pure (h _ ⟨(hs2.2 _ (Ne.symm I.ne)).trans I.obj, hn2, I.ne⟩ hs2)
theorem make_map {R : Result → Shared → Prop} {vs : List Value} {kw : List (Str × Value)} (X : K.In s.heap) (hm : PySem.W.makesIn K C = true)
    (hi : PySem.W.findIn K (.ref C) "__init__" = some (some (.ref f))) (hf : PySem.W.typeIn K (.ref f) = some (.type "function"))
    (h : codeAny (model prog w) (A.under (.builtin "type.__call__" ⟨.ref C :: vs, kw⟩)) (.call (.ref f) ⟨.ref (s.heap.objs.size + 1) :: vs, kw⟩) (PySem.W.InitBack (s.heap.objs.size + 1) R)
      { s with heap := (s.heap.push PySem.W.emptyDict).push (PySem.W.instObj C s.heap.objs.size) }) :
    codeAny (model prog w) A (.call (.ref C) ⟨vs, kw⟩) R s := by
  obtain ⟨hh, g, d, t, os⟩ := s
  exact PySem.W.make_core (PySem.W.makes_of X hm) (PySem.W.looks_findIn X hi) (fun self => PySem.W.bind_fn X self hf) (.inl rfl) h
end
def putF (f : Str) (v : V) : List (Str × V) → List (Str × V)
  | [] => [(f, v)]
  | (g, x) :: r => if g = f then (g, v) :: r else (g, x) :: putF f v r
theorem lookup_putF (f g : Str) (v : V) : ∀ fs : List (Str × V), (putF f v fs).lookup g = if g = f then some v else fs.lookup g
  | [] => by
    show List.lookup g [(f, v)] = _
    by_cases h : g = f
    · have hb : (g == f) = true := beq_iff_eq.mpr h
      simp only [List.lookup, hb, if_pos h]
    · have hb : (g == f) = false := beq_eq_false_iff_ne.mpr h
      simp only [List.lookup, hb, if_neg h]
  | (k, x) :: r => by
    have ih := lookup_putF f g v r
    rw [show putF f v ((k, x) :: r) = (if k = f then (k, v) :: r else (k, x) :: putF f v r) from rfl]
    by_cases hk : k = f
    · rw [if_pos hk]
      by_cases h : g = k
      · have hb : (g == k) = true := beq_iff_eq.mpr h
        simp only [List.lookup, hb, if_pos (h.trans hk)]
      · have hb : (g == k) = false := beq_eq_false_iff_ne.mpr h
        simp only [List.lookup, hb, if_neg (fun e : g = f => h (e.trans hk.symm))]
    · rw [if_neg hk]
      by_cases h : g = k
      · have hb : (g == k) = true := beq_iff_eq.mpr h
        simp only [List.lookup, hb, if_neg (fun e : g = f => hk (h.symm.trans e))]
      · have hb : (g == k) = false := beq_eq_false_iff_ne.mpr h
        simp only [List.lookup, hb]
        exact ih
theorem keys_putF (f : Str) (v : V) : ∀ fs : List (Str × V), f ∈ (putF f v fs).map (·.1) ∧ ∀ g, g ∈ fs.map (·.1) → g ∈ (putF f v fs).map (·.1)
  | [] => ⟨by simp [putF], fun g h => by simp at h⟩
  | (k, x) :: r => by
    obtain ⟨i1, i2⟩ := keys_putF f v r
    rw [show putF f v ((k, x) :: r) = (if k = f then (k, v) :: r else (k, x) :: putF f v r) from rfl]
    by_cases hk : k = f
    · rw [if_pos hk]
      subst hk
      exact ⟨by simp, fun g h => by simpa using h⟩
    · rw [if_neg hk]
      refine ⟨?_, fun g h => ?_⟩
      · rw [List.map_cons]
        exact List.mem_cons_of_mem _ i1
      · rw [List.map_cons] at h ⊢
        rcases List.mem_cons.mp h with e | e
        · exact List.mem_cons.mpr (.inl e)
        · exact List.mem_cons_of_mem _ (i2 g e)
theorem length_putF (f : Str) (v : V) : ∀ fs : List (Str × V), (putF f v fs).length ≤ fs.length + 1
  | [] => by simp [putF]
  | (k, x) :: r => by
    have ih := length_putF f v r
    rw [show putF f v ((k, x) :: r) = (if k = f then (k, v) :: r else (k, x) :: putF f v r) from rfl]
    by_cases hk : k = f
    · rw [if_pos hk, List.length_cons, List.length_cons]; omega
    · rw [if_neg hk, List.length_cons, List.length_cons]; omega
theorem RelO.some_of {v : V} {o : Option Value} (r : RelO (some v) o) : ∃ u, o = some u ∧ RelV v u := by
  cases o with
  | none => exact (show False from r).elim
  | some u => exact ⟨u, rfl, r⟩
theorem RelO.none_of {o : Option Value} (r : RelO none o) : o = none := by
  cases o with
  | none => rfl
  | some u => exact (show False from r).elim
theorem handed_of {v : V} {u : Value} (r : RelV v u) : PySem.W.handedIn u = true := by
  cases v with
  | non => cases (show u = Value.none from r); rfl
  | bl b => cases (show u = Value.bool b from r); rfl
  | int i => obtain ⟨t, e⟩ := (show ∃ t, u = Value.int i t from r); cases e; rfl
  | str x => obtain ⟨t, e⟩ := (show ∃ t, u = Value.str x t from r); cases e; rfl
  | byt b => obtain ⟨t, e⟩ := (show ∃ t, u = Value.bytes b t from r); cases e; rfl
  | flt b => obtain ⟨t, e⟩ := (show ∃ t, u = Value.float b t from r); cases e; rfl
  | ref a => cases (show u = Value.ref a from r); rfl
  | ty n => cases (show u = Value.type n from r); rfl
section
variable {P : Program} {w : World} {H H' : Hp} {h h' : Heap} {a C dx : Addr} {fs fs' : List (Str × V)}
theorem ins_get (hok : HOk P w H h) (e : H a = some (.ins C dx fs)) : ∃ mA, ObjM h a dx C mA ∧ (∀ f, RelO (fs.lookup f) (mA f)) ∧ PySem.Within mA (fs.map (·.1)) ∧ fs.length ≤ 1000 ∧ H dx = some (.own a) := by
  obtain ⟨d, z, ne, ob, mA, n, r, q⟩ := (show ObjOk P w H h a (.ins C dx fs) from hok a _ e)
  exact ⟨mA, ⟨ob, n, ne⟩, r, q, z, d⟩
end
structure Cls (K : PySem.W.Frag) (C : Addr) : Prop where
  pg : PySem.W.plainGet K C Str.empty = true
  hd : PySem.W.hasDictIn K C = true
  po : PySem.W.plainOver K C = true
  sa : PySem.W.findIn K (.ref C) "__setattr__" = some (some (.builtin "object.__setattr__"))
theorem Cls.get {K : PySem.W.Frag} {C : Addr} (c : Cls K C) (f : Str) : PySem.W.plainGet K C f = true := c.pg
def NoAttr (K : PySem.W.Frag) (C : Addr) (f : Str) : Prop := PySem.W.findIn K (.ref C) f = some none
theorem NoAttr.taker {K : PySem.W.Frag} {C : Addr} {f : Str} (n : NoAttr K C f) : PySem.W.takerIn K C f = some none := by
  unfold PySem.W.takerIn
  rw [show PySem.W.findIn K (.ref C) f = some none from n]
  rfl
structure Con (K : PySem.W.Frag) (C : Addr) (f : Str) (v : V) (u : Value) : Prop where
  at_ : PySem.W.findIn K (.ref C) f = some (some u)
  rel : RelV v u
  get : PySem.W.specialIn K u "__get__" = some none
  cp : PySem.W.copiedNames.contains f = false
structure Meth (K : PySem.W.Frag) (C : Addr) (m : Str) (f : Addr) : Prop where
  at_ : PySem.W.findIn K (.ref C) m = some (some (.ref f))
  fn : PySem.W.isFn K (.ref f) = true
  kp : PySem.W.keepIn K (.ref f) = true
section
variable {X : Cx} {pins : List (Addr × Obj)} {σ : St} {H : Hp} {s : Shared} {a C dx : Addr} {fs : List (Str × V)} {f : Str} {v : V} {A : Around} {E : Value → Shared → Prop}
theorem getattr_ok {b : Bool} {Q : Value → Shared → Prop} (I : Inv X pins σ H s) (e : H a = some (.ins C dx fs)) (c : Cls X.K C) (n : NoAttr X.K C f) (l : fs.lookup f = some v)
    (h : ∀ u s', Inv X pins σ H s' → RelV v u → Q u s') : wpAny (model X.prog X.w) A (getAttr (.ref a) f b) Q E s := by
  obtain ⟨mA, O, r, _, _, _⟩ := ins_get I.hok e
  obtain ⟨u, hu, ru⟩ := RelO.some_of (v := v) (o := mA f) (by rw [← l]; exact r f)
  exact get_map I.kIn O (c.get f) c.hd n hu (handed_of ru) (h u _ (I.tok _) ru)
theorem getmeth_ok {m : Str} {g : Addr} {pl : Sem Bool} {Q : Value × List Value → Shared → Prop} (I : Inv X pins σ H s) (e : H a = some (.ins C dx fs)) (c : Cls X.K C) (k : Meth X.K C m g) (l : fs.lookup m = none)
    (h : Q (.ref g, [.ref a]) s) : wpAny (model X.prog X.w) A (getMethod (.ref a) m pl) Q E s := by
  obtain ⟨mA, O, r, _, _, _⟩ := ins_get I.hok e
  have hn : mA m = none := RelO.none_of (by rw [← l]; exact r m)
  exact get_meth I.kIn O (c.get m) k.at_ k.fn hn h
theorem setattr_ok {y : V} {u : Value} {Q : Unit → Shared → Prop} (I : Inv X pins σ H s) (e : H a = some (.ins C dx fs)) (c : Cls X.K C) (n : NoAttr X.K C f) (hl : fs.length < 1000) (ry : RelV y u)
    (h : ∀ s', Inv X pins σ (upd H a (.ins C dx (putF f y fs))) s' → Q () s') : wpAny (model X.prog X.w) A (setAttr (.ref a) f u) Q E s := by
  obtain ⟨mA, O, r, wi, _, ho⟩ := ins_get I.hok e
  have hz : (fs.map (·.1)).length ≤ sizeLine := by rw [List.length_map, sizeLine_eq]; omega
  refine set_map I.kIn O c.sa c.po n.taker c.hd wi hz fun h' O' sb => h _ ?_
  have hd : ∃ o, h'.get? dx = some o := let ⟨o, _, _, e', _⟩ := O'.ns; ⟨o, e'⟩
  refine I.write (x := a) (e := dx) (by rw [e]; exact True.intro) (.inr ho) (fun b q hb z => (sb.2 b hb).trans z) hd ?_
  refine ⟨by rw [upd_ne O.ne]; exact ho, ?_, O.ne, O'.obj, _, O'.ns, fun g => ?_, fun g hg => ?_⟩
  · have := length_putF f y fs; omega
  · show RelO ((putF f y fs).lookup g) (if g = f then some u else mA g)
    rw [lookup_putF]
    by_cases q : g = f
    · rw [if_pos q, if_pos q]; exact ry
    · rw [if_neg q, if_neg q]; exact r g
  · by_cases q : g = f
    · rw [q]; exact (keys_putF f y fs).1
    · refine (keys_putF f y fs).2 g (wi g fun z => hg ?_)
      show (if g = f then some u else mA g) = none
      rw [if_neg q]; exact z
theorem Inv.made (I : Inv X pins σ H s) : Inv X pins σ (upd (upd H s.heap.objs.size (.own (s.heap.objs.size + 1))) (s.heap.objs.size + 1) (.ins C s.heap.objs.size []))
    { s with heap := (s.heap.push PySem.W.emptyDict).push (PySem.W.instObj C s.heap.objs.size) } := by
  have e1 : (s.heap.push PySem.W.emptyDict).get? s.heap.objs.size = some PySem.W.emptyDict := Heap.get?_push_size s.heap rfl
  have e2 : ((s.heap.push PySem.W.emptyDict).push (PySem.W.instObj C s.heap.objs.size)).get? (s.heap.objs.size + 1) = some (PySem.W.instObj C s.heap.objs.size) := by
    have := Heap.get?_push_size (s.heap.push PySem.W.emptyDict) (o := PySem.W.instObj C s.heap.objs.size) rfl
    rwa [Heap.size_push] at this
  have e3 : (s.heap.push PySem.W.emptyDict).Ns s.heap.objs.size (fun _ => none) := ⟨PySem.W.emptyDict, #[], _, e1, rfl, (fun e he => absurd he (by simp)), fun _ => rfl⟩
  have I1 := I.laid (a := s.heap.objs.size) (o := .own (s.heap.objs.size + 1)) (h' := s.heap.push PySem.W.emptyDict) (t' := s.toks) (fun b u q => Heap.get?_push_of_some _ q) (Nat.le_refl _) ⟨_, e1⟩
  refine I1.laid (a := s.heap.objs.size + 1) (o := .ins C s.heap.objs.size []) (t' := s.toks) (fun b u q => Heap.get?_push_of_some _ q) (Nat.le_of_eq (Heap.size_push _ _)) ?_
  have ne : s.heap.objs.size ≠ s.heap.objs.size + 1 := Nat.ne_of_lt (Nat.lt_succ_self _)
  refine ⟨by rw [upd_ne ne, upd_same], Nat.zero_le _, ne, e2, fun _ => none, (Heap.Ns1.of_empty e3).at fun o q => Heap.get?_push_of_some _ q, fun _ => True.intro, fun y hy => absurd rfl hy⟩
theorem attr_of {prog : Program} {w : World} {env : Env} {e : Expr} {f : Str} {pos : Pos} {s : Shared} {Q : Value → Shared → Prop} (hb : attributeBase e f env (eval e env) = eval e env)
    (h : wpAny (model prog w) A (eval e env) (fun o s₁ => wpAny (model prog w) A (getAttr o f true) Q E s₁) E s) : wpAny (model prog w) A (eval (.Attribute e f pos) env) Q E s :=
  Attribute_any_ h (by rw [arm_eval_Attribute, hb])
end
def tFld (K : PySem.W.Frag) (ta : TE) (f : Str) : TE := fun σ H Q => ta σ H fun x H1 => ∃ a C dx fs v, x = .ref a ∧ H1 a = some (.ins C dx fs) ∧ Cls K C ∧ NoAttr K C f ∧ fs.lookup f = some v ∧ Q v H1
def sFld (K : PySem.W.Frag) (ta tv : TE) (f : Str) : TS := fun D σ H => tv σ H fun y H1 => ta σ H1 fun x H2 => ∃ a C dx fs, x = .ref a ∧ H2 a = some (.ins C dx fs) ∧ Cls K C ∧ NoAttr K C f ∧ fs.length < 1000 ∧
  D.nx σ (upd H2 a (.ins C dx (putF f y fs)))
def InOp (X : Cx) (op : Operator) (rd : V → V → Hp → VK → Prop) : Prop :=
  ∀ (pins : List (Addr × Obj)) (s : Shared) (σ : St) (H : Hp) (x y : V) (u v : Value) (Q : VK), Inv X pins σ H s → RelV x u → RelV y v → rd x y H Q → wpAny (model X.prog X.w) X.A (inplaceOp op u v) (EP X pins σ Q) X.xe s
def sFldAug (K : PySem.W.Frag) (ta tv : TE) (rd : V → V → Hp → VK → Prop) (f : Str) : TS := fun D σ H => ta σ H fun x H1 => ∃ a C dx fs v, x = .ref a ∧ H1 a = some (.ins C dx fs) ∧ Cls K C ∧ NoAttr K C f ∧ fs.lookup f = some v ∧
  tv σ H1 fun y H2 => rd v y H2 fun z H3 => ∃ dx' fs', H3 a = some (.ins C dx' fs') ∧ fs'.length < 1000 ∧ D.nx σ (upd H3 a (.ins C dx' (putF f z fs')))
section
variable {X : Cx} {o e value : Expr} {f : Str} {pos pos' tpos : Pos} {ta tv : TE}
theorem pe_fld (he : PE X e ta) (hb : attributeBase e f X.env (eval e X.env) = eval e X.env) : PE X (.Attribute e f pos) (tFld X.K ta f) := by
  intro pins s σ H Q I h
  refine attr_of hb (thn (he pins s σ H _ I h) fun u s1 ⟨x, H1, I1, rx, a, C, dx, fs, v, ex, ea, c, n, l, q⟩ => ?_)
  subst ex
  obtain rfl : u = Value.ref a := rx
  exact getattr_ok I1 ea c n l fun u' s2 I2 ru => ⟨v, H1, I2, ru, q⟩
theorem ps_fld (ha : PE X o ta) (hv : PE X value tv) (hs : swapsWith value (some (.Attribute o f pos')) pos.line X.env = pure false) : PS X (.Assign [.Attribute o f pos'] value pos) (sFld X.K ta tv f) := by
  intro pins s σ H D I h
  refine plainObj_wpAny_Assign_Attribute (thn (hv pins s σ H _ I h) fun u s1 ⟨y, H1, I1, ry, q⟩ => thn (ha pins s1 σ H1 _ I1 q) fun ov s2 ⟨x, H2, I2, rx, a, C, dx, fs, ex, ea, c, n, l, q2⟩ => ?_) hs
  subst ex
  obtain rfl : ov = Value.ref a := rx
  exact setattr_ok I2 ea c n l ry fun s3 I3 => ⟨σ, _, I3, q2⟩
theorem ps_fldaug {op : Operator} {rd : V → V → Hp → VK → Prop} (ha : PE X o ta) (hv : PE X value tv) (hop : InOp X op rd) : PS X (.AugAssign (.Attribute o f tpos) op value pos) (sFldAug X.K ta tv rd f) := by
  intro pins s σ H D I h
  refine wpAny_AugAssign_AttributeAny (thn (ha pins s σ H _ I h) fun ov s1 ⟨x, H1, I1, rx, a, C, dx, fs, v, ex, ea, c, n, l, q⟩ => ?_)
  subst ex
  obtain rfl : ov = Value.ref a := rx
  refine getattr_ok I1 ea c n l fun u s2 I2 ru => thn (hv pins s2 σ H1 _ I2 q) fun w3 s3 ⟨y, H2, I3, ry, q3⟩ => thn (hop pins s3 σ H2 v y u w3 _ I3 ru ry q3) fun w4 s4 ⟨z, H3, I4, rz, dx', fs', ea', l', q4⟩ => ?_
  exact setattr_ok I4 ea' c n l' rz fun s5 I5 => ⟨σ, _, I5, q4⟩
def rAdd : V → V → Hp → VK → Prop := fun x y H Q => ∃ i j, x = .int i ∧ y = .int j ∧ Q (.int (i + j)) H
theorem in_add : InOp X .Add rAdd := by
  rintro pins s σ H x y u v Q I rx ry ⟨i, j, rfl, rfl, q⟩
  obtain ⟨t, rfl⟩ := (show ∃ t, u = Value.int i t from rx)
  obtain ⟨t', rfl⟩ := (show ∃ t', v = Value.int j t' from ry)
  exact PyProof.Rows.iadd_int ⟨.int (i + j), H, I.tok _, ⟨_, rfl⟩, q⟩
end
section
variable {X : Cx} {pins : List (Addr × Obj)} {σ : St} {H : Hp} {s : Shared} {A : Around} {E : Value → Shared → Prop} {Q : Value → Shared → Prop} {c : Value} {b : Bool}
inductive TyOf (K : PySem.W.Frag) (H : Hp) : V → Value → Prop where
  | non : TyOf K H .non (.type "NoneType")
  | bl (x : Bool) : TyOf K H (.bl x) (.type "bool")
  | int (i : Int) : TyOf K H (.int i) (.type "int")
  | str (x : Str) : TyOf K H (.str x) (.type "str")
  | flt (x : UInt64) : TyOf K H (.flt x) (.type "float")
  | lst {a : Addr} {xs : List V} (e : H a = some (.lst xs)) : TyOf K H (.ref a) (.type "list")
  | frz {a : Addr} {o : Obj} {xs : List V} (e : H a = some (.frz o (.lst xs))) : TyOf K H (.ref a) (.type "list")
  | tup {a : Addr} {xs : List V} (e : H a = some (.tup xs)) : TyOf K H (.ref a) (.type "tuple")
  | dK {a : Addr} {kvs : List (Key × V)} (e : H a = some (.dK kvs)) : TyOf K H (.ref a) (.type "dict")
  | dT {a : Addr} {kvs : List (List Key × V)} (e : H a = some (.dT kvs)) : TyOf K H (.ref a) (.type "dict")
  | ins {a C dx : Addr} {fs : List (Str × V)} (e : H a = some (.ins C dx fs)) (cl : Cls K C) (ha : PySem.W.findIn K (.ref C) "__class__" = some (some (.builtin "object.__class__")))
      (hn : PySem.W.specialIn K (.builtin "object.__class__") "__get__" = some (some (.builtin "getset_descriptor.__get__"))) (htk : PySem.W.takesIn K (.builtin "object.__class__") = some true)
      (hm : PySem.W.mroIn K C (.type "object") = some true) : TyOf K H (.ref a) (.ref C)
theorem isinst_ok {x : V} {u t : Value} (I : Inv X pins σ H s) (rx : RelV x u) (ty : TyOf X.K H x t) (e : PySem.W.kitOne X.K t c = some b) (h : ∀ tk, Q (.bool b) { s with toks := tk }) :
    wpAny (model X.prog X.w) A (call (.builtin "isinstance") [u, c]) Q E s := by
  cases ty with
  | non => cases (show u = Value.none from rx); exact PySem.W.kia_one PySem.W.kitx_none I.kIn True.intro e (fun z => nomatch z) h
  | bl y => cases (show u = Value.bool y from rx); exact PySem.W.kia_one PySem.W.kitx_bool I.kIn True.intro e (fun z => nomatch z) h
  | int i => obtain ⟨t, q⟩ := (show ∃ t, u = Value.int i t from rx); cases q; exact PySem.W.kia_one PySem.W.kitx_int I.kIn True.intro e (fun z => nomatch z) h
  | str y => obtain ⟨t, q⟩ := (show ∃ t, u = Value.str y t from rx); cases q; exact PySem.W.kia_one PySem.W.kitx_str I.kIn True.intro e (fun z => nomatch z) h
  | flt y => obtain ⟨t, q⟩ := (show ∃ t, u = Value.float y t from rx); cases q; exact PySem.W.kia_one PySem.W.kitx_float I.kIn True.intro e (fun z => nomatch z) h
  | @lst a xs ea =>
    cases (show u = Value.ref a from rx)
    obtain ⟨_, _, n, _, h1⟩ := (show ObjOk X.prog X.w H s.heap a (.lst xs) from I.hok a _ ea)
    exact PySem.W.kia_one PySem.W.kitx_list I.kIn ⟨_, h1, rfl⟩ e (fun z => nomatch z) h
  | @frz a ob xs ea =>
    cases (show u = Value.ref a from rx)
    obtain ⟨_, _, _, n, _, h1⟩ := (show ObjOk X.prog X.w H s.heap a (.frz ob (.lst xs)) from I.hok a _ ea)
    exact PySem.W.kia_one PySem.W.kitx_list I.kIn ⟨_, h1, rfl⟩ e (fun z => nomatch z) h
  | @tup a xs ea =>
    cases (show u = Value.ref a from rx)
    obtain ⟨_, _, _, p⟩ := (show ObjOk X.prog X.w H s.heap a (.tup xs) from I.hok a _ ea)
    obtain ⟨o, h1, h2, _⟩ := p
    exact PySem.W.kia_one PySem.W.kitx_tuple I.kIn ⟨o, h1, h2⟩ e (fun z => nomatch z) h
  | @dK a kvs ea =>
    cases (show u = Value.ref a from rx)
    obtain ⟨_, _, vs, _, p⟩ := (show ObjOk X.prog X.w H s.heap a (.dK kvs) from I.hok a _ ea)
    obtain ⟨o, es, ep, h1, h2, _⟩ := p
    exact PySem.W.kia_one PySem.W.kitx_dict I.kIn ⟨o, h1, h2.1⟩ e (fun z => nomatch z) h
  | @dT a kvs ea =>
    cases (show u = Value.ref a from rx)
    obtain ⟨_, _, xs, _, o, es, ep, h1, h2, _⟩ := (show ObjOk X.prog X.w H s.heap a (.dT kvs) from I.hok a _ ea)
    exact PySem.W.kia_one PySem.W.kitx_dict I.kIn ⟨o, h1, h2.1⟩ e (fun z => nomatch z) h
  | @ins a C dx fs ea cl ha hn htk hm =>
    cases (show u = Value.ref a from rx)
    obtain ⟨mA, O, _⟩ := ins_get I.hok ea
    obtain ⟨od, J, _⟩ := O.look
    exact PySem.W.kia_one (PySem.W.kitx_own (cl.get _) cl.hd ha hn htk hm) I.kIn J e (fun z => nomatch z) h
end
end L2
namespace L2
open PySem PySem.Spec PyProof.Rows
structure Room (k : Nat) (A : Around) : Prop where
  hd : A.handled = none
  dp : A.depth + 3 * k + 5 < recursionLimit
  un : A.units + 16 * k + 200 < cLine
theorem Room.mono {j k : Nat} {A : Around} (r : Room k A) (h : j ≤ k) : Room j A := ⟨r.hd, by have := r.dp; omega, by have := r.un; omega⟩
theorem Room.deeper {k : Nat} {A : Around} (r : Room (k + 1) A) (env : Env) : Room k (A.deeper env) :=
  ⟨r.hd, by have := r.dp; show A.depth + 1 + 3 * k + 5 < _; omega, by have := r.un; show A.units + 3 + 16 * k + 200 < _; omega⟩
theorem Room.in1 {k : Nat} {A : Around} (r : Room (k + 1) A) : Room k A.in1 :=
  ⟨r.hd, by have := r.dp; show A.depth + 3 * k + 5 < _; omega, by have := r.un; show A.units + 1 + 16 * k + 200 < _; omega⟩
theorem make_depth {A : Around} {C : Addr} {us : List Value} {kw : List (Str × Value)} : (A.under (.builtin "type.__call__" ⟨.ref C :: us, kw⟩)).depth = A.depth + 1 := by
  first | rfl | simp [Around.under, Code.weight, Code.isCreation, Code.isGuard, Code.isCaller, Code.frames, Code.isFrame, guardIds]
theorem make_units {A : Around} {C : Addr} {us : List Value} {kw : List (Str × Value)} : (A.under (.builtin "type.__call__" ⟨.ref C :: us, kw⟩)).units = A.units + 1 := by
  first | rfl | simp [Around.under, Code.cUnits, Code.frames, Code.isFrame]
theorem Room.make {k : Nat} {A : Around} (r : Room (k + 1) A) (C : Addr) (us : List Value) (kw : List (Str × Value)) : Room k (A.under (.builtin "type.__call__" ⟨.ref C :: us, kw⟩)) :=
  ⟨r.hd, by have := r.dp; rw [make_depth]; omega, by have := r.un; rw [make_units]; omega⟩
theorem Room.depth {k : Nat} {A : Around} (r : Room k A) : A.depth < recursionLimit := by have := r.dp; omega
theorem Room.units {k : Nat} {A : Around} (r : Room k A) : A.units + 64 < cLine := by have := r.un; omega
def tNil : TA := fun _ H Q => Q [] H
def tCons (ta : TE) (tr : TA) : TA := fun σ H Q => ta σ H fun x H1 => tr σ H1 fun xs H2 => Q (x :: xs) H2
section
variable {X : Cx} {e : Expr} {es : List Expr} {te : TE} {t : TA} {pos : Pos}
theorem pa_nil : PA X [] tNil := fun _ _ _ _ H Q I h => Calls.spliced_nil ⟨[], H, I, .nil, h⟩
theorem pa_cons (ha : PE X e te) (hr : PA X es t) (hs : starEach (e :: es) X.env = (false, eval e X.env) :: starEach es X.env := by rfl) : PA X (e :: es) (tCons te t) := by
  intro pos pins s σ H Q I h
  rw [hs]
  show wpAny _ _ (spliced ((false, eval e X.env) :: backTo pos (starEach es X.env))) _ _ s
  refine Calls.spliced_cons (thn (ha pins s σ H _ I h) fun u s1 ⟨x, H1, I1, r1, q1⟩ => ?_)
  exact thn (hr pos pins s1 σ H1 _ I1 q1) fun us s2 ⟨xs, H2, I2, r2, q2⟩ => ⟨x :: xs, H2, I2, .cons r1 r2, q2⟩
def tTup (t : TA) : TE := fun σ H Q => t σ H fun xs H1 => xs.length ≤ sizeLine ∧ ∀ p, H1 p = none → Q (.ref p) (upd H1 p (.tup xs))
def tLst (t : TA) : TE := fun σ H Q => t σ H fun xs H1 => xs.length ≤ sizeLine ∧ ∀ p, H1 p = none → Q (.ref p) (upd H1 p (.lst xs))
theorem pe_tup {x1} (h : PA X es t) : PE X (.Tuple es x1 pos) (tTup t) := by
  intro pins s σ H Q I hq
  refine wpAny_Tuple_spliced (thn (h pos pins s σ H _ I hq) fun us s1 ⟨xs, H1, I1, r, z, q⟩ => ⟨by rw [← r.length]; exact z, ?_⟩)
  have hf : H1 s1.heap.objs.size = none := I1.hok.fresh (Nat.le_refl _)
  refine ⟨.ref s1.heap.objs.size, upd H1 s1.heap.objs.size (.tup xs), I1.laid (t' := s1.toks) (fun b u e => Heap.get?_push_of_some _ e) (Nat.le_refl _) ?_, rfl, q _ hf⟩
  exact ⟨z, us, r, ⟨_, Heap.get?_push_size _ rfl, rfl, _, rfl⟩⟩
theorem pe_lst (h : PA X es t) : PE X (.List es pos) (tLst t) := by
  intro pins s σ H Q I hq
  refine wpAny_List_spliced (thn (h pos pins s σ H _ I hq) fun us s1 ⟨xs, H1, I1, r, z, q⟩ => ⟨by rw [← r.length]; exact z, ?_⟩)
  have hf : H1 s1.heap.objs.size = none := I1.hok.fresh (Nat.le_refl _)
  refine ⟨.ref s1.heap.objs.size, upd H1 s1.heap.objs.size (.lst xs), I1.laid (t' := s1.toks) (fun b u e => Heap.get?_push_of_some _ e) (Nat.le_refl _) ?_, rfl, q _ hf⟩
  exact ⟨z, us, 0, r, Heap.get?_push_size _ rfl⟩
end
abbrev Sp := List V → Hp → VK → XK → Prop
abbrev CXT := List Env → Hp → Shared → XK → Value → Shared → Prop
structure Env0 (P : Program) (w : World) (K : PySem.W.Frag) (mg : Str → Option Value) (base : Heap) (A : Around) (outer : List Env) (s : Shared) (H : Hp) : Prop where
  frames : A.frames = some outer
  mod : Mod K mg base
  bs : ∀ b o, base.get? b = some o → s.heap.get? b = some o ∧ H b = none
  bsz : base.objs.size ≤ s.heap.objs.size
  funs : s.heap.FunFrames base outer
  frf : ∀ b ∈ frs outer, H b = none
  hok : HOk P w H s.heap
  bare : AllBare s.gens
def CE (outer : List Env) (P : Program) (w : World) (H : Hp) (s : Shared) (Q : VK) (u : Value) (s' : Shared) : Prop :=
  ∃ v H', s'.os = s.os ∧ AllBare s'.gens ∧ Un (frs outer) [] H H' s.heap s'.heap ∧ HOk P w H' s'.heap ∧ RelV v u ∧ Q v H'
def CR (CX : CXT) (outer : List Env) (P : Program) (w : World) (H : Hp) (s : Shared) (Q : VK) (E : XK) (r : Result) (s' : Shared) : Prop :=
  match r with
  | .ok (.ret u) => CE outer P w H s Q u s'
  | .ok _ => False
  | .error e => CX outer H s E e s'
structure FnOk (P : Program) (w : World) (K : PySem.W.Frag) (mg : Str → Option Value) (base : Heap) (CX : CXT) (k : Nat) (f : Addr) (fd : FuncData) (ps : List Str) (sp : Sp) : Prop where
  len : ∀ vs H Q E, sp vs H Q E → vs.length = ps.length
  run : ∀ (A : Around) (outer : List Env) (s : Shared) (H : Hp) (args : Args) (us : List Value) (vs : List V) (Q : VK) (E : XK), Room k A → Env0 P w K mg base A outer s H → BindsTo s fd args (ps.zip us) → Vals vs us → sp vs H Q E →
    codeAny (model P w) A (.call (.ref f) args) (CR CX outer P w H s Q E) s
theorem FnOk.mono {P : Program} {w : World} {K : PySem.W.Frag} {mg : Str → Option Value} {base : Heap} {CX : CXT} {j k : Nat} {f : Addr} {fd : FuncData} {ps : List Str} {sp : Sp} (F : FnOk P w K mg base CX j f fd ps sp) (h : j ≤ k) :
    FnOk P w K mg base CX k f fd ps sp := ⟨F.len, fun A outer s H args us vs Q E hr => F.run A outer s H args us vs Q E (hr.mono h)⟩
theorem FnOk.imp {P : Program} {w : World} {K : PySem.W.Frag} {mg : Str → Option Value} {base : Heap} {CX : CXT} {k : Nat} {f : Addr} {fd : FuncData} {ps : List Str} {sp sp' : Sp} (F : FnOk P w K mg base CX k f fd ps sp)
    (h : ∀ vs H Q E, sp' vs H Q E → sp vs H Q E) : FnOk P w K mg base CX k f fd ps sp' :=
  ⟨fun vs H Q E q => F.len vs H Q E (h _ _ _ _ q), fun A outer s H args us vs Q E hr he hb hv hs => F.run A outer s H args us vs Q E hr he hb hv (h _ _ _ _ hs)⟩
theorem Env0.make {P : Program} {w : World} {K : PySem.W.Frag} {mg : Str → Option Value} {base : Heap} {A : Around} {outer : List Env} {s : Shared} {H : Hp} (e : Env0 P w K mg base A outer s H) (C : Addr) (us : List Value) (kw : List (Str × Value)) :
    Env0 P w K mg base (A.under (.builtin "type.__call__" ⟨.ref C :: us, kw⟩)) outer s H := ⟨by first | exact e.frames | (simpa [Around.under, Code.envs, Code.isFrame, pushEnvs] using e.frames), e.mod, e.bs, e.bsz, e.funs, e.frf, e.hok, e.bare⟩
theorem Env0.in1 {P : Program} {w : World} {K : PySem.W.Frag} {mg : Str → Option Value} {base : Heap} {A : Around} {outer : List Env} {s : Shared} {H : Hp} (e : Env0 P w K mg base A outer s H) :
    Env0 P w K mg base A.in1 outer s H := ⟨e.frames, e.mod, e.bs, e.bsz, e.funs, e.frf, e.hok, e.bare⟩
section
variable {X : Cx} {pins : List (Addr × Obj)} {σ : St} {H : Hp} {s s' : Shared}
theorem Inv.env0 (I : Inv X pins σ H s) : Env0 X.prog X.w X.K X.mg X.base X.A X.stack s H :=
  ⟨I.ok.frames, I.ok.mod, I.bs, Nat.le_trans I.ok.bsz I.sz, I.stack, I.stkFree, I.hok, I.bare⟩
theorem Inv.after {Q : VK} {u : Value} (I : Inv X pins σ H s) (h : CE X.stack X.prog X.w H s Q u s') : EP X pins σ Q u s' := by
  obtain ⟨v, H', os, bare, un, hok, r, q⟩ := h
  obtain ⟨hh, g, d, t, os'⟩ := s'
  obtain rfl : os' = s.os := os
  exact ⟨v, H', I.call (h' := hh) (g' := g) (d' := d) (t' := t) (ch := []) un hok bare (fun b z => absurd z (by simp)), r, q⟩
end
def tCall (sp : Sp) (dvs : List V) (E : XK) (t : TA) : TE := fun σ H Q => t σ H fun vs H1 => sp (vs ++ dvs) H1 Q E
def tMeth (C : Addr) (m : Str) (sp : Sp) (dvs : List V) (E : XK) (ta : TE) (t : TA) : TE := fun σ H Q => ta σ H fun x H1 => ∃ a dx fs, x = .ref a ∧ H1 a = some (.ins C dx fs) ∧ fs.lookup m = none ∧
  t σ H1 fun vs H2 => sp (x :: (vs ++ dvs)) H2 Q E
def tMake (C : Addr) (sp : Sp) (dvs : List V) (E : XK) (t : TA) : TE := fun σ H Q => t σ H fun vs H1 => ∀ x dx, H1 x = none → H1 dx = none → dx ≠ x →
  sp (.ref x :: (vs ++ dvs)) (upd (upd H1 dx (.own x)) x (.ins C dx [])) (fun v H2 => v = .non ∧ Q (.ref x) H2) E
def Binds (K : PySem.W.Frag) (fd : FuncData) (ps : List Str) (ds : List Value) : Prop :=
  ∀ (s : Shared) (us : List Value), K.In s.heap → (us ++ ds).length = ps.length → BindsTo s fd ⟨us, []⟩ (ps.zip (us ++ ds))
theorem Binds.all {K : PySem.W.Frag} {fd : FuncData} {ps : List Str} (h : ∀ us : List Value, us.length = ps.length → bindArgs fd ⟨us, []⟩ = pure (ps.zip us)) : Binds K fd ps [] := fun s us _ hl => by
  rw [List.append_nil] at hl ⊢
  exact .of_eq (h us hl)
def Passes (CX : CXT) (X : Cx) (E : XK) : Prop := ∀ (pins : List (Addr × Obj)) (σ : St) (H : Hp) (s : Shared) (e : Value) (s' : Shared), Inv X pins σ H s → CX X.stack H s E e s' → X.xe e s'
section
variable {X : Cx} {CX : CXT} {k : Nat} {f C : Addr} {fd : FuncData} {ps : List Str} {sp : Sp} {dvs : List V} {ds : List Value} {E : XK} {x m : Str} {p pos apos : Pos} {e o : Expr} {es : List Expr} {ta : TE} {t : TA}
theorem run_fn {pins : List (Addr × Obj)} {σ : St} {H : Hp} {s : Shared} {Q : VK} {us : List Value} {vs : List V} (F : FnOk X.prog X.w X.K X.mg X.base CX k f fd ps sp) (hr : Room k X.A) (hb : Binds X.K fd ps ds) (hd : Vals dvs ds) (hx : Passes CX X E)
    (I : Inv X pins σ H s) (r : Vals vs us) (h : sp (vs ++ dvs) H Q E) : wpAny (model X.prog X.w) X.A (call (.ref f) us) (EP X pins σ Q) X.xe s := by
  have r2 : Vals (vs ++ dvs) (us ++ ds) := r.append hd
  have hl : (us ++ ds).length = ps.length := by rw [← r2.length]; exact F.len _ _ _ _ h
  refine wpAny_call (codeAny_mono (F.run X.A X.stack s H ⟨us, []⟩ (us ++ ds) (vs ++ dvs) Q E hr I.env0 (hb s us I.kIn hl) r2 h) fun r s' hq => ?_)
  cases r with
  | error e => exact hx pins σ H s e s' I hq
  | ok fl =>
    cases fl with
    | ret u => exact I.after hq
    | next => exact False.elim hq
    | brk => exact False.elim hq
    | cont => exact False.elim hq
theorem pe_call (F : FnOk X.prog X.w X.K X.mg X.base CX k f fd ps sp) (hr : Room k X.A) (hg : Gl X x) (hm : X.mg x = some (.ref f)) (hk : PySem.W.keepIn X.K (.ref f) = true) (hb : Binds X.K fd ps ds) (hd : Vals dvs ds) (hx : Passes CX X E)
    (ha : PA X (e :: es) t) (hdb : (x == ("__debug__" : Str)) = false := by decide) (he : starEach (e :: es) X.env = (false, eval e X.env) :: starEach es X.env := by rfl) (hpl : (backTo pos (starEach es X.env)).any (·.1) = false := by rfl) :
    PE X (.Call (.Name x p) (e :: es) [] pos) (tCall sp dvs E t) := by
  intro pins s σ H Q I h
  refine wpAny_Call_Name_kw (ld_glob I hg hm ?_ hdb)
  refine PySem.W.callWith_K (h₀ := X.base) I.ok.mod.kin hk (thn (ha pos pins s σ H _ I h) fun us s1 ⟨vs, H1, I1, r, q⟩ => ⟨I1.kIn, ?_⟩) he hpl
  exact run_fn F hr hb hd hx I1 r q
theorem pe_meth {pl : Sem Bool} (he : PE X o ta) (c : Cls X.K C) (hm : Meth X.K C m f) (F : FnOk X.prog X.w X.K X.mg X.base CX k f fd ps sp) (hr : Room k X.A) (hb : Binds X.K fd ps ds) (hd : Vals dvs ds) (hx : Passes CX X E) (ha : PA X (e :: es) t)
    (hst : starEach (e :: es) X.env = (false, eval e X.env) :: starEach es X.env := by rfl) (hpl : (backTo pos (starEach es X.env)).any (·.1) = false := by rfl)
    (ht : eval (.Call (.Attribute o m apos) (e :: es) [] pos) X.env = (do
      let ov ← eval o X.env
      standAt apos.atName
      let (f, first) ← holding [ov] (getMethod ov m pl)
      callWith pos f first (backTo pos (starEach (e :: es) X.env)) (backToKw pos (keywordEach [] X.env))) := by rfl) :
    PE X (.Call (.Attribute o m apos) (e :: es) [] pos) (tMeth C m sp dvs E ta t) := by
  intro pins s σ H Q I h
  refine PySem.W.methodCall_KW (pl := pl) (thn (he pins s σ H _ I h) fun u s1 ⟨x, H1, I1, rx, a, dx, fs, ex, ea, l, q⟩ => ?_) ht
  subst ex
  obtain rfl : u = Value.ref a := rx
  refine getmeth_ok I1 ea c hm l ?_
  refine PySem.W.callWith_K (first := [.ref a]) (h₀ := X.base) I.ok.mod.kin hm.kp (thn (ha pos pins s1 σ H1 _ I1 q) fun us s2 ⟨vs, H2, I2, r, q2⟩ => ⟨I2.kIn, ?_⟩) hst hpl
  exact run_fn (us := .ref a :: us) (vs := .ref a :: vs) F hr hb hd hx I2 (.cons rfl r) q2
theorem pe_meth0 {pl : Sem Bool} (he : PE X o ta) (c : Cls X.K C) (hm : Meth X.K C m f) (F : FnOk X.prog X.w X.K X.mg X.base CX k f fd ps sp) (hr : Room k X.A) (hb : Binds X.K fd ps ds) (hd : Vals dvs ds) (hx : Passes CX X E)
    (ht : eval (.Call (.Attribute o m apos) [] [] pos) X.env = (do
      let ov ← eval o X.env
      standAt apos.atName
      let (f, first) ← holding [ov] (getMethod ov m pl)
      callWith pos f first (backTo pos (starEach [] X.env)) (backToKw pos (keywordEach [] X.env))) := by rfl) :
    PE X (.Call (.Attribute o m apos) [] [] pos) (tMeth C m sp dvs E ta tNil) := by
  intro pins s σ H Q I h
  refine PySem.W.methodCall_KW (pl := pl) (thn (he pins s σ H _ I h) fun u s1 ⟨x, H1, I1, rx, a, dx, fs, ex, ea, l, q⟩ => ?_) ht
  subst ex
  obtain rfl : u = Value.ref a := rx
  refine getmeth_ok I1 ea c hm l ?_
  exact PySem.W.callWith_K0 (first := [.ref a]) I1.kIn hm.kp (run_fn (us := [.ref a]) (vs := [.ref a]) F hr hb hd hx I1 (.cons rfl .nil) q)
structure Mk (K : PySem.W.Frag) (C f : Addr) : Prop where
  makes : PySem.W.makesIn K C = true
  init : PySem.W.findIn K (.ref C) "__init__" = some (some (.ref f))
  fn : PySem.W.isFn K (.ref f) = true
  kp : PySem.W.keepIn K (.ref C) = true
theorem run_make {pins : List (Addr × Obj)} {σ : St} {H : Hp} {s : Shared} {Q : VK} {us : List Value} {vs : List V} (M : Mk X.K C f) (F : FnOk X.prog X.w X.K X.mg X.base CX k f fd ps sp) (hr : Room (k + 1) X.A) (hb : Binds X.K fd ps ds) (hd : Vals dvs ds)
    (hx : Passes CX X E) (I : Inv X pins σ H s) (r : Vals vs us)
    (h : ∀ x dx, H x = none → H dx = none → dx ≠ x → sp (.ref x :: (vs ++ dvs)) (upd (upd H dx (.own x)) x (.ins C dx [])) (fun v H2 => v = .non ∧ Q (.ref x) H2) E) :
    wpAny (model X.prog X.w) X.A (call (.ref C) us) (EP X pins σ Q) X.xe s := by
  have hq := h (s.heap.objs.size + 1) s.heap.objs.size (I.hok.fresh (Nat.le_succ _)) (I.hok.fresh (Nat.le_refl _)) (Nat.ne_of_lt (Nat.lt_succ_self _))
  have I2 := Inv.made (C := C) I
  have r2 : Vals (V.ref (s.heap.objs.size + 1) :: (vs ++ dvs)) (Value.ref (s.heap.objs.size + 1) :: (us ++ ds)) := .cons rfl (r.append hd)
  have hl : (Value.ref (s.heap.objs.size + 1) :: us ++ ds).length = ps.length := by
    have e := r2.length
    rw [F.len _ _ _ _ hq] at e
    exact e.symm
  refine wpAny_call (make_map (f := f) I.kIn M.makes M.init (beq_iff_eq.mp M.fn) (codeAny_mono (F.run _ X.stack _ _ ⟨Value.ref (s.heap.objs.size + 1) :: us, []⟩ (Value.ref (s.heap.objs.size + 1) :: (us ++ ds)) _ _ E (hr.make C us [])
    (I2.env0.make C us []) (hb _ (Value.ref (s.heap.objs.size + 1) :: us) I2.kIn hl) r2 hq) fun r s' hq' => ?_))
  cases r with
  | error e => exact hx pins σ _ _ e s' I2 hq'
  | ok fl =>
    cases fl with
    | ret u =>
      obtain ⟨v, H', I3, rv, ev, q3⟩ := I2.after hq'
      subst ev
      exact ⟨rv, ⟨V.ref (s.heap.objs.size + 1), H', I3, rfl, q3⟩⟩
    | next => exact False.elim hq'
    | brk => exact False.elim hq'
    | cont => exact False.elim hq'
theorem pe_make (M : Mk X.K C f) (F : FnOk X.prog X.w X.K X.mg X.base CX k f fd ps sp) (hr : Room (k + 1) X.A) (hg : Gl X x) (hm : X.mg x = some (.ref C)) (hb : Binds X.K fd ps ds) (hd : Vals dvs ds) (hx : Passes CX X E)
    (ha : PA X (e :: es) t) (hdb : (x == ("__debug__" : Str)) = false := by decide) (he : starEach (e :: es) X.env = (false, eval e X.env) :: starEach es X.env := by rfl) (hpl : (backTo pos (starEach es X.env)).any (·.1) = false := by rfl) :
    PE X (.Call (.Name x p) (e :: es) [] pos) (tMake C sp dvs E t) := by
  intro pins s σ H Q I h
  refine wpAny_Call_Name_kw (ld_glob I hg hm ?_ hdb)
  refine PySem.W.callWith_K (h₀ := X.base) I.ok.mod.kin M.kp (thn (ha pos pins s σ H _ I h) fun us s1 ⟨vs, H1, I1, r, q⟩ => ⟨I1.kIn, ?_⟩) he hpl
  exact run_make M F hr hb hd hx I1 r q
end
section
variable {X : Cx} {CX : CXT} {k : Nat} {f C : Addr} {fd : FuncData} {ps ks : List Str} {sp : Sp} {E : XK} {x m : Str} {p pos apos kpos : Pos} {e o : Expr} {es : List Expr} {kws : List Keyword} {te ta : TE} {t tk : TA} {nm : Option Str}
structure KBinds (K : PySem.W.Frag) (fd : FuncData) (ps ks : List Str) (g : List Value → List Value → List Value) (gV : List V → List V → List V) : Prop where
  to : ∀ (s : Shared) (us ws : List Value), K.In s.heap → (g us ws).length = ps.length → BindsTo s fd ⟨us, ks.zip ws⟩ (ps.zip (g us ws))
  rel : ∀ {vs : List V} {us : List Value} {zs : List V} {ws : List Value}, Vals vs us → Vals zs ws → Vals (gV vs zs) (g us ws)
variable {g : List Value → List Value → List Value} {gV : List V → List V → List V}
end
structure FnScope (N P : List Str) (sc : Scope) : Prop where
  kind : sc.kind = .function
  co : sc.isCoroutine = false
  gen : sc.isGenerator = false
  nd : N.Nodup
  pre : N.take P.length = P
  par : ∀ x ∈ P, sc.names.lookup x = some .local ∨ sc.names.lookup x = some .cell
  nofree : ∀ y ∈ sc.names, y.2 ≠ .free
theorem bindL_out {kindOf : Str → Option NameKind} {x : Str} : ∀ {binds : List (Str × Value)} {m : Str → Option Value}, (∀ v, (x, v) ∉ binds) → bindL kindOf binds m x = m x
  | [], _, _ => rfl
  | (n, v) :: r, m, h => by
    unfold bindL
    rw [bindL_out fun w hw => h w (List.mem_cons_of_mem _ hw)]
    split
    · have : x ≠ n := by rintro rfl; exact h v List.mem_cons_self
      simp [this]
    · rfl
theorem bindC_out {kindOf : Str → Option NameKind} {x : Str} : ∀ {binds : List (Str × Value)} {m : Str → Option Value}, (∀ v, (x, v) ∉ binds) → bindC kindOf binds m x = m x
  | [], _, _ => rfl
  | (n, v) :: r, m, h => by
    unfold bindC
    rw [bindC_out fun w hw => h w (List.mem_cons_of_mem _ hw)]
    split
    · rfl
    · have : x ≠ n := by rintro rfl; exact h v List.mem_cons_self
      simp [this]
theorem bindL_get {kindOf : Str → Option NameKind} {x : Str} {v : Value} : ∀ {P : List Str} {vs : List Value} {i : Nat} {m : Str → Option Value}, P.Nodup → P[i]? = some x → vs[i]? = some v → kindOf x = some .local →
    bindL kindOf (P.zip vs) m x = some v
  | [], _, _, _, _, h, _, _ => by simp at h
  | _ :: _, [], _, _, _, _, h, _ => by simp at h
  | p :: P, w :: vs, 0, m, nd, h1, h2, hk => by
    simp at h1 h2; subst h1; subst h2
    show bindL kindOf ((p, w) :: P.zip vs) m p = _
    unfold bindL
    rw [bindL_out fun v hv => (List.nodup_cons.mp nd).1 (List.of_mem_zip hv).1, if_pos hk]
    simp
  | p :: P, w :: vs, i + 1, m, nd, h1, h2, hk => by
    show bindL kindOf ((p, w) :: P.zip vs) m x = _
    unfold bindL
    exact bindL_get (i := i) (List.nodup_cons.mp nd).2 (by simpa using h1) (by simpa using h2) hk
theorem bindC_get {kindOf : Str → Option NameKind} {x : Str} {v : Value} : ∀ {P : List Str} {vs : List Value} {i : Nat} {m : Str → Option Value}, P.Nodup → P[i]? = some x → vs[i]? = some v → kindOf x ≠ some .local →
    bindC kindOf (P.zip vs) m x = some v
  | [], _, _, _, _, h, _, _ => by simp at h
  | _ :: _, [], _, _, _, _, h, _ => by simp at h
  | p :: P, w :: vs, 0, m, nd, h1, h2, hk => by
    simp at h1 h2; subst h1; subst h2
    show bindC kindOf ((p, w) :: P.zip vs) m p = _
    unfold bindC
    rw [bindC_out fun v hv => (List.nodup_cons.mp nd).1 (List.of_mem_zip hv).1, if_neg hk]
    simp
  | p :: P, w :: vs, i + 1, m, nd, h1, h2, hk => by
    show bindC kindOf ((p, w) :: P.zip vs) m x = _
    unfold bindC
    exact bindC_get (i := i) (List.nodup_cons.mp nd).2 (by simpa using h1) (by simpa using h2) hk
def start (N : List Str) (vs : List V) : St := vs.map some ++ List.replicate (N.length - vs.length) none
def cxOf (CX : CXT) (P : Program) (w : World) (K : PySem.W.Frag) (mg : Str → Option Value) (base : Heap) (N : List Str) (qual : Str) (scope : Scope) (f : Addr) (cd : Value) (A : Around) (outer : List Env) (s : Shared) (H : Hp) (E : XK) : Cx where
  prog := P
  w := w
  K := K
  mg := mg
  base := base
  A := A.deeper (envOfC qual scope s.heap.objs.size f cd)
  N := N
  s₀ := s
  H₀ := H
  env := envOfC qual scope s.heap.objs.size f cd
  outer := outer
  stack := envOfC qual scope s.heap.objs.size f cd :: outer
  ex := []
  calm := true
  fn := fun _ => true
  pn := []
  xe := fun e s' => wpAny (model P w) (A.deeper (envOfC qual scope s.heap.objs.size f cd)) (leaving (envOfC qual scope s.heap.objs.size f cd) e) (fun _ s'' => CX outer H s E e s'') (fun e' s'' => CX outer H s E e' s'') s'
theorem cell_has {sc : Scope} {n : Nat} {x : Str} (h : sc.names.lookup x = some .cell) : ∃ c, (cellsFrom n sc.names []).lookup x = some c := by
  have q := PySem.W.cellsFrom_some sc.names n [] (.inl h)
  exact Option.isSome_iff_exists.mp q
theorem inv_start {CX : CXT} {P : Program} {w : World} {K : PySem.W.Frag} {mg : Str → Option Value} {base : Heap} {N ps : List Str} {qual : Str} {scope : Scope} {f : Addr} {cd : Value} {A : Around} {outer : List Env} {s s1 : Shared} {H : Hp} {E : XK} {us : List Value} {vs : List V}
    (S : FnScope N ps scope) (hd : A.handled = none) (e0 : Env0 P w K mg base A outer s H) (hl : vs.length = ps.length) (r : Vals vs us)
    (x : InCallC s s.heap.objs.size (bindL (envOfC qual scope s.heap.objs.size f cd).kindOf (ps.zip us) fun _ => none) (cellsFrom (s.heap.objs.size + 1) scope.names []) (bindC (envOfC qual scope s.heap.objs.size f cd).kindOf (ps.zip us) fun _ => none) s1) :
    Inv (cxOf CX P w K mg base N qual scope f cd A outer s H E) [] (start N vs) H s1 := by
  have hpl : ps.length ≤ N.length := by have := congrArg List.length S.pre; rw [List.length_take] at this; omega
  obtain ⟨h1, tk, rfl, hk⟩ := x.done
  have noA : ∀ b : Addr, b ∉ (cxOf CX P w K mg base N qual scope f cd A outer s H E).ex := fun b z => absurd (show b ∈ ([] : List Addr) from z) (by simp)
  refine ⟨⟨e0.mod, S.kind, rfl, rfl, Nat.le_refl _, fun y z c h1 h2 => ?_, fun y hy => ?_, fun y c _ h => ?_, fun _ => hd, Around.frames_deeper e0.frames, .inr ⟨rfl, rfl⟩, fun b z => absurd z (noA b), e0.bs, e0.bsz, fun b _ _ => noA b, fun b z => absurd z (noA b), e0.funs, e0.frf⟩,
    rfl, e0.bare, Un.kept hk, ⟨_, x.toInCall.ns, fun i y v h1 h2 h3 => ?_⟩, fun y c h => ⟨_, x.cell y c h⟩, e0.hok.fresh (Nat.le_refl _), fun y c h => ?_, fun p hp => absurd (show p ∈ ([] : List (Addr × Obj)) from hp) (by simp), e0.hok.kept hk, ?_⟩
  · exact name_of_addr x.apart (PySem.mem_of_lookup h1) (PySem.mem_of_lookup h2)
  · have hy : scope.names.lookup y = some .cell ∨ scope.names.lookup y = some .free := hy
    rcases hy with hy | hy
    · exact cell_has hy
    · exact absurd rfl (S.nofree _ (PySem.mem_of_lookup hy))
  · exact Nat.le_of_lt (x.above y c (PySem.mem_of_lookup h))
  · have hi : i < vs.length := by
      unfold start at h2
      by_cases hi : i < vs.length
      · exact hi
      · rw [List.getElem?_append_right (by simpa using hi)] at h2
        rw [List.getElem?_replicate] at h2
        split at h2 <;> cases h2
    have ha : vs[i]? = some v := by
      unfold start at h2
      rw [List.getElem?_append_left (by simpa using hi), List.getElem?_map] at h2
      cases e : vs[i]? with
      | none => rw [e] at h2; cases h2
      | some a => rw [e] at h2; cases h2; rfl
    obtain ⟨u, hu, rv⟩ := r.get ha
    have hp : ps[i]? = some y := by
      rw [← S.pre, List.getElem?_take_of_lt (by omega)]; exact h1
    have ndP : ps.Nodup := by rw [← S.pre]; exact S.nd.sublist (List.take_sublist _ _)
    refine ⟨u, rv, ?_⟩
    rcases S.par y (List.mem_of_getElem? hp) with k | k
    · exact .inl ⟨k, bindL_get ndP hp hu k⟩
    · obtain ⟨c, e⟩ := cell_has (n := s.heap.objs.size + 1) k
      refine .inr ⟨.inl k, c, e, ?_⟩
      have q := x.cell y c e
      rw [bindC_get ndP hp hu (by show scope.names.lookup y ≠ _; rw [k]; decide)] at q
      exact q
  · exact e0.hok.fresh (Nat.le_of_lt (x.above y c (PySem.mem_of_lookup h)))
  · unfold start
    show _ = N.length
    rw [List.length_append, List.length_map, List.length_replicate]
    omega
theorem fn_of {CX : CXT} {P : Program} {w : World} {K : PySem.W.Frag} {mg : Str → Option Value} {base : Heap} {k : Nat} {f : Addr} {name qual : Str} {params : Arguments} {body : List Stmt} {scope : Scope} {dV kV doc pm cdv ct oc : Value} {an od : Option Addr}
    {osl : Array (Option Value)} {N ps : List Str} {sp : Sp} (lk : K.lookup f = some ⟨oc, od, .func (PySem.W.fnOf name qual params body scope dV kV doc pm an cdv ct), osl⟩) (hcd : PySem.W.codeIn K cdv qual = true) (S : FnScope N ps scope)
    (len : ∀ vs H Q E, sp vs H Q E → vs.length = ps.length)
    (hbody : ∀ (A : Around) (outer : List Env) (s : Shared) (H : Hp) (vs : List V) (Q : VK) (E : XK), Room k (A.deeper (envOfC qual scope s.heap.objs.size f cdv)) → sp vs H Q E →
      ∃ t, PSs (cxOf CX P w K mg base N qual scope f cdv A outer s H E) body t ∧ t { nx := fun _ H' => Q .non H', rt := Q } (start N vs) H) :
    FnOk P w K mg base CX (k + 1) f (PySem.W.fnOf name qual params body scope dV kV doc pm an cdv ct) ps sp := by
  refine ⟨len, fun A outer s H args us vs Q E hr e0 hb r hsp => ?_⟩
  have hl := len _ _ _ _ hsp
  have KX : K.In s.heap := e0.mod.kin.keeps fun b o e => (e0.bs b o e).1
  have lim : s.heap.NoLimit := e0.mod.nolimit.keeps fun b o e => (e0.bs b o e).1
  have hkind : ∀ y ∈ ps.zip us, scope.names.lookup y.1 = some .local ∨ (scope.names.lookup y.1 = some .cell ∧ ((cellsFrom (s.heap.objs.size + 1) scope.names []).lookup y.1).isSome = true) := fun ⟨n, v⟩ hy => by
    rcases S.par n (List.of_mem_zip hy).1 with q | q
    · exact .inl q
    · exact .inr ⟨q, PySem.W.cellsFrom_some _ _ _ (.inl q)⟩
  refine codeAny_call_function hr.depth (KX _ _ lk) rfl S.co S.gen rfl (PySem.W.codeRec_of KX hcd) (hb _ _ _ _ ?_)
  refine wpAny_newFunctionEnv_cells S.kind hkind fun env he s1 x => ?_
  subst he
  refine ⟨lim.keeps x.toInCall.keep, codeAny_func ?_⟩
  obtain ⟨t, ht, hq⟩ := hbody A outer s H vs Q E (hr.deeper _) hsp
  have I : Inv (cxOf CX P w K mg base N qual scope f cdv A outer s H E) [] (start N vs) H s1 := inv_start S hr.hd e0 hl r x
  refine wpAny_mono (ht [] s1 (start N vs) H _ I hq) (fun fl s' hs => ?_) fun e s' hs => hs
  have fin : ∀ {σ' : St} {H' : Hp} {v : V} {u : Value}, Inv (cxOf CX P w K mg base N qual scope f cdv A outer s H E) [] σ' H' s' → RelV v u → Q v H' → CE outer P w H s Q u s' :=
    fun {σ' H' v u} J rv q => ⟨v, H', J.os, J.bare, J.base, J.hok, rv, q⟩
  cases fl with
  | ret u =>
    obtain ⟨v, σ', H', J, rv, q⟩ := hs
    exact fin J rv q
  | next =>
    obtain ⟨σ', H', J, q⟩ := hs
    exact fin (v := V.non) (u := Value.none) J rfl q
  | brk =>
    obtain ⟨_, _, _, q⟩ := hs
    exact False.elim q
  | cont =>
    obtain ⟨_, _, _, q⟩ := hs
    exact False.elim q
end L2
namespace L2
open PySem PySem.Spec PyProof.Rows
section
variable {X : Cx} {x : Str} {p pos : Pos} {e : Expr} {es : List Expr} {t : TA} {id T : String} {r : List V → Hp → VK → Prop}
def tCB (r : List V → Hp → VK → Prop) (t : TA) : TE := fun σ H Q => t σ H fun vs H1 => r vs H1 Q
theorem pe_callB (hc : CallR X (.builtin id) r) (hg : Gl X x) (hm : X.mg x = none) (hv : bootBuiltins x = some (.builtin id)) (ha : PA X (e :: es) t) (hn : x ≠ "__name__" := by decide) (hdb : (x == ("__debug__" : Str)) = false := by decide)
    (he : starEach (e :: es) X.env = (false, eval e X.env) :: starEach es X.env := by rfl) (hpl : (backTo pos (starEach es X.env)).any (·.1) = false := by rfl) : PE X (.Call (.Name x p) (e :: es) [] pos) (tCB r t) := by
  intro pins s σ H Q I h
  refine wpAny_Call_Name_kw (ld_blt I hg hm hv ?_ hn hdb)
  exact PyProof.Rows.callWith_builtin1 (thn (ha pos pins s σ H _ I h) fun us s1 ⟨vs, H1, I1, r1, q1⟩ => hc pins s1 σ H1 vs us Q I1 r1 q1) he hpl
theorem pe_callTy (hc : CallR X (.type T) r) (hg : Gl X x) (hm : X.mg x = none) (hv : bootBuiltins x = some (.type T)) (ha : PA X (e :: es) t) (hn : x ≠ "__name__" := by decide) (hdb : (x == ("__debug__" : Str)) = false := by decide)
    (he : starEach (e :: es) X.env = (false, eval e X.env) :: starEach es X.env := by rfl) (hpl : (backTo pos (starEach es X.env)).any (·.1) = false := by rfl) : PE X (.Call (.Name x p) (e :: es) [] pos) (tCB r t) := by
  intro pins s σ H Q I h
  refine wpAny_Call_Name_kw (ld_blt I hg hm hv ?_ hn hdb)
  exact PyProof.Rows.callWith_type1 (thn (ha pos pins s σ H _ I h) fun us s1 ⟨vs, H1, I1, r1, q1⟩ => hc pins s1 σ H1 vs us Q I1 r1 q1) he hpl
end
end L2
namespace HT
open PySem PyProof.Rows
section
open PySem.SeqAt
open PySem.AutoSeq1 (wpAny_loadPart')
open PySem.MeetsSeq PySem.MeetsSeq2 PySem.MeetsSeq3
end
section
variable {prog : Program} {w : World} {A : Around} {E : Value → Shared → Prop} {s : Shared}
theorem cat_tup {t b : Addr} {vs ws : List Value} {Q : Value → Shared → Prop} (ht : IsTup s.heap t vs.toArray) (hb : IsTup s.heap b ws.toArray) (hv : vs ≠ [])
    (h1 : ws = [] → Q (.ref t) s) (h2 : ws ≠ [] → Q (.ref s.heap.objs.size) { s with heap := s.heap.push { cls := .type "tuple", data := .seq (vs ++ ws).toArray } })
    (hsz : vs.length + ws.length ≤ sizeLine) : wpAny (model prog w) A (binaryOp .Add (.ref t) (.ref b)) Q E s := by
  obtain ⟨⟨cls, dd, data, sl⟩, ho, hc, n, hd⟩ := id ht
  obtain ⟨⟨cls2, dd2, data2, sl2⟩, ho2, hc2, n2, hd2⟩ := id hb
  simp only at hc hd hc2 hd2
  subst hc hd hc2 hd2
  have e : vs.toArray ++ ws.toArray = (vs ++ ws).toArray := by simp
  by_cases hw : ws = []
  · exact concat_meets ⟨_, ho, rfl⟩ ⟨_, ho2, rfl⟩ noFill_tuple_add seq_tuple_add PySem.F.slot_tuple_add PySem.F.entry_tuple_add (PySem.F.args_tuple_add_2 _ _)
      (tuple_addW1 t b vs.toArray ws.toArray n n2 dd dd2 sl sl2 (by simpa using hv) (by simp [hw])) ⟨ho, ho2, h1 hw⟩
  · refine concat_meets ⟨_, ho, rfl⟩ ⟨_, ho2, rfl⟩ noFill_tuple_add seq_tuple_add PySem.F.slot_tuple_add PySem.F.entry_tuple_add (PySem.F.args_tuple_add_2 _ _)
      (tuple_addW2 t b vs.toArray ws.toArray n n2 dd dd2 sl sl2 (by simpa using hv) (by simpa using hw) (by rw [List.size_toArray, List.size_toArray]; exact hsz)) ⟨ho, ho2, ?_⟩
    rw [e]
    exact h2 hw
def sIx (n d : Nat) : Option Int → Nat
  | none => d
  | some v => if v < 0 then (v + (n : Int)).toNat else min v.toNat n
theorem sIx_none (n d : Nat) : sIx n d none = d := rfl
theorem sIx_nat (n d k : Nat) : sIx n d (some (k : Int)) = min k n := by
  show (if (k : Int) < 0 then ((k : Int) + (n : Int)).toNat else min (k : Int).toNat n) = min k n
  rw [if_neg (by omega), Int.toNat_natCast]
theorem sIx_le (n d : Nat) (hd : d ≤ n) (o : Option Int) : sIx n d o ≤ n := by
  cases o with
  | none => exact hd
  | some v =>
    show (if v < 0 then (v + (n : Int)).toNat else min v.toNat n) ≤ n
    by_cases hv : v < 0
    · rw [if_pos hv]; omega
    · rw [if_neg hv]; exact Nat.min_le_right _ _
theorem clip_eq (v : Int) (n d : Nat) : (if v < 0 then max (v + (n : Int)) 0 else min v (n : Int)) = ((sIx n d (some v) : Nat) : Int) := by
  show (if v < 0 then max (v + (n : Int)) 0 else min v (n : Int)) = (((if v < 0 then (v + (n : Int)).toNat else min v.toNat n) : Nat) : Int)
  by_cases hv : v < 0
  · simp only [if_pos hv]; omega
  · simp only [if_neg hv]; omega
theorem adjust_gen (lo hi : Option Int) (n : Nat) : Builtin.Slice.sliceAdjust lo hi 1 (n : Int) = (((sIx n 0 lo : Nat) : Int), ((sIx n n hi : Nat) : Int)) := by
  have h1 : ¬ ((1 : Int) < 0) := by omega
  unfold Builtin.Slice.sliceAdjust
  simp only [h1, if_false]
  refine Prod.ext ?_ ?_
  · cases lo with
    | none => rfl
    | some v => exact clip_eq v n 0
  · cases hi with
    | none => rfl
    | some v => exact clip_eq v n n
theorem places_gen (i j : Nat) : Builtin.Slice.slicePlaces (i : Int) (j : Int) 1 = j - i := by
  unfold Builtin.Slice.slicePlaces
  have h1 : (1 : Int) > 0 := by omega
  simp only [h1, if_true, Int.ediv_one]
  split <;> omega
theorem slicePart_ {v : Value} {o : Option Int} {Q : Option Int → Shared → Prop} (p : IsPart v o) (h : Q o s) : wpAny (model prog w) A (Builtin.Slice.slicePartIndex v) Q E s := by
  cases p with
  | none => exact slicePart_none h
  | int i t => exact slicePart_int h
theorem sliceApplied_gen {sl : Addr} {vl vu : Value} {lo hi : Option Int} {n : Nat} {Q : Int × Int × Nat → Shared → Prop} (hs : s.heap.IsSliceOf sl vl vu .none) (pl : IsPart vl lo) (pu : IsPart vu hi)
    (h : Q (((sIx n 0 lo : Nat) : Int), 1, sIx n n hi - sIx n 0 lo) s) : wpAny (model prog w) A (Builtin.Slice.sliceApplied (.ref sl) (pure (n : Int))) Q E s := by
  obtain ⟨os, hos, hcs, hds⟩ := id hs
  unfold Builtin.Slice.sliceApplied Builtin.Slice.sliceFields
  refine wpAny_bind (wpAny_bind (wpAny_field hos hds (x := vl) rfl (wpAny_bind (wpAny_field hos hds (x := vu) rfl (wpAny_bind (wpAny_field hos hds (x := .none) rfl (wpAny_pure ?_)))))))
  refine wpAny_bind (slicePart_none ?_)
  show wpAny _ _ (if ((1 : Int) == 0) = true then _ else _) _ _ s
  rw [if_neg (by decide)]
  refine wpAny_bind (slicePart_ pl (wpAny_bind (slicePart_ pu (wpAny_bind (wpAny_pure ?_)))))
  show wpAny _ _ (match Builtin.Slice.sliceAdjust lo hi 1 (n : Int) with | (lo, hi) => pure (lo, (1 : Int), Builtin.Slice.slicePlaces lo hi 1)) _ _ s
  rw [adjust_gen lo hi n]
  show wpAny _ _ (pure (((sIx n 0 lo : Nat) : Int), (1 : Int), Builtin.Slice.slicePlaces ((sIx n 0 lo : Nat) : Int) ((sIx n n hi : Nat) : Int) 1)) _ _ s
  rw [places_gen]
  exact wpAny_pure h
theorem pick_gen (xs : Array Value) (i k : Nat) : ((List.range k).filterMap fun (m : Nat) => xs[((i : Int) + (m : Int) * 1).toNat]?).toArray = ((xs.toList.drop i).take k).toArray := by
  have e : (fun (m : Nat) => xs[((i : Int) + (m : Int) * 1).toNat]?) = fun m => xs[i + m]? := by
    funext m
    have : ((i : Int) + (m : Int) * 1).toNat = i + m := by omega
    rw [this]
  rw [e]
  have := pick_run xs i k
  rw [List.filterMap_map] at this
  have e2 : ((fun x => xs[x]?) ∘ fun x => i + x) = fun m => xs[i + m]? := rfl
  rw [e2] at this
  rw [this]
theorem getItem_tuple_cut {t sl : Addr} {items : Array Value} {vl vu : Value} {lo hi : Option Int} {Q : Value → Shared → Prop} (ht : IsTup s.heap t items) (hs : s.heap.IsSliceOf sl vl vu .none) (pl : IsPart vl lo) (pu : IsPart vu hi)
    (hw : ¬ (sIx items.size 0 lo = 0 ∧ sIx items.size items.size hi = items.size))
    (h : Q (.ref s.heap.objs.size) { s with heap := s.heap.push { cls := .type "tuple", data := .seq ((items.toList.drop (sIx items.size 0 lo)).take (sIx items.size items.size hi - sIx items.size 0 lo)).toArray } })
    (hsz : items.size ≤ sizeLine) : wpAny (model prog w) A (getItem (.ref t) (.ref sl)) Q E s := by
  have htake : sizeOk (.seq ((items.toList.drop (sIx items.size 0 lo)).take (sIx items.size items.size hi - sIx items.size 0 lo)).toArray) := by
    show ((items.toList.drop (sIx items.size 0 lo)).take (sIx items.size items.size hi - sIx items.size 0 lo)).toArray.size ≤ sizeLine
    rw [List.size_toArray, List.length_take, List.length_drop, Array.length_toList]
    omega
  have hj : sIx items.size items.size hi ≤ items.size := sIx_le _ _ (Nat.le_refl _) hi
  obtain ⟨os, hos, hcs, hds⟩ := id hs
  have hTs : s.TypeIs (.ref sl) "slice" := ⟨os, hos, hcs⟩
  unfold getItem
  try with_reducible refine wpAny_holding ?_
  first | refine wpAny_bind (wpAny_pure ?_) | skip
  refine wpAny_bind (wpAny_sequenceKey ht.typeIs (by decide) ?_)
  refine wpAny_bind (wpAny_callSpecial?_slot (name := Str.ofString "__getitem__") ht.typeIs PyProof.Rows.slot_tuple_getitem
    (wpAny_call_entry PyProof.Rows.slot_tuple_getitem ht.typeIs entry_tuple_getitem ?_ (args_tuple_getitem _ _)))
  show wpAny _ _ (Builtin.Tuple.tupleItemsOf (.ref t) >>= _) _ _ s
  refine wpAny_bind (tupleItemsOf_ ht ?_)
  refine wpAny_bind (wpAny_typeOf hTs ?_)
  rw [if_pos (by decide)]
  refine wpAny_bind (sliceApplied_gen hs pl pu ?_)
  have hno : ¬ ((((sIx items.size 0 lo : Nat) : Int) == 0 && (1 : Int) == 1 && (sIx items.size items.size hi - sIx items.size 0 lo) == items.size) = true) := by
    intro q
    rw [Bool.and_eq_true, Bool.and_eq_true] at q
    have q1 : ((sIx items.size 0 lo : Nat) : Int) = 0 := eq_of_beq q.1.1
    have q2 : sIx items.size items.size hi - sIx items.size 0 lo = items.size := eq_of_beq q.2
    exact hw ⟨by omega, by omega⟩
  show wpAny _ _ (if (((sIx items.size 0 lo : Nat) : Int) == 0 && (1 : Int) == 1 && (sIx items.size items.size hi - sIx items.size 0 lo) == items.size) = true then _ else _) _ _ s
  rw [if_neg hno, pick_gen]
  first
    | exact wpAny_bind (m := Builtin.Tuple.tupleExact _) (wpAny_newObj_type (wpAny_pure ⟨_, rfl, wpAny_pure h⟩) htake)
    | exact wpAny_bind (m := Builtin.Tuple.tupleExact _) (wpAny_newObj_type (wpAny_bind (wpAny_pure (wpAny_pure ⟨_, rfl, wpAny_pure h⟩))) htake)
    | exact wpAny_bind (wpAny_bind (m := Builtin.Tuple.tupleExact _) (wpAny_newObj_type (wpAny_pure (wpAny_pure ⟨_, rfl, wpAny_pure h⟩)) htake))
    | exact wpAny_bind (wpAny_bind (m := Builtin.Tuple.tupleExact _) (wpAny_newObj_type (wpAny_pure ⟨_, rfl, wpAny_pure h⟩) htake))
end
end HT
namespace L2
open PySem PySem.Spec PyProof.Rows
abbrev TO := St → Hp → (Option Int → Hp → Prop) → Prop
def PO (X : Cx) (e : Option Expr) (t : TO) : Prop :=
  ∀ (pins : List (Addr × Obj)) (s : Shared) (σ : St) (H : Hp) (Q : Option Int → Hp → Prop), Inv X pins σ H s → t σ H Q →
    wpAny (model X.prog X.w) X.A (evalPart e X.env) (fun u s' => ∃ o H', Inv X pins σ H' s' ∧ IsPart u o ∧ Q o H') X.xe s
def tNoPart : TO := fun _ H Q => Q none H
def tPart (t : TE) : TO := fun σ H Q => t σ H fun x H1 => ∃ i, x = .int i ∧ Q (some i) H1
section
variable {X : Cx} {e : Expr} {te : TE} {lo hi : Option Expr} {tl th : TO} {pos p2 : Pos}
theorem po_none : PO X none tNoPart := by
  intro pins s σ H Q I h
  rw [evalPart_none]
  exact wpAny_pure ⟨none, H, I, .none, h⟩
theorem po_some (h : PE X e te) : PO X (some e) (tPart te) := by
  intro pins s σ H Q I hw
  rw [evalPart_some]
  refine thn (h pins s σ H _ I hw) fun u s1 ⟨x, H1, I1, r1, q1⟩ => ?_
  obtain ⟨i, rfl, q⟩ := q1
  obtain ⟨t, rfl⟩ := r1
  exact ⟨some i, H1, I1, .int i t, q⟩
def SlR (X : Cx) (r : V → Option Int → Option Int → Hp → VK → Prop) : Prop :=
  ∀ (pins : List (Addr × Obj)) (s : Shared) (σ : St) (H : Hp) (x : V) (v vl vu : Value) (lo hi : Option Int) (sl : Addr) (Q : VK), Inv X pins σ H s → RelV x v → s.heap.IsSliceOf sl vl vu .none → IsPart vl lo → IsPart vu hi → r x lo hi H Q →
    ∃ T id, typeLookup (.type T) "__getitem__" = pure (some (.builtin id)) ∧ s.TypeIs v T ∧ wpAny (model X.prog X.w) X.A (getItem v (.ref sl)) (EP X pins σ Q) X.xe s
def tSl (r : V → Option Int → Option Int → Hp → VK → Prop) (te : TE) (tl th : TO) : TE := fun σ H Q => te σ H fun x H1 => tl σ H1 fun l H2 => th σ H2 fun u H3 => r x l u H3 Q
theorem pe_slice {r : V → Option Int → Option Int → Hp → VK → Prop} (hr : SlR X r) (he : PE X e te) (hl : PO X lo tl) (hu : PO X hi th) : PE X (.Subscript e (.Slice lo hi none p2) pos) (tSl r te tl th) := by
  intro pins s σ H Q I h
  refine Subscript_ (thn (he pins s σ H _ I h) fun v s1 ⟨x, H1, I1, r1, q1⟩ => ?_)
  refine wpAny_Slice (thn (hl pins s1 σ H1 _ I1 q1) fun vl s2 ⟨l, H2, I2, pl, q2⟩ => thn (hu pins s2 σ H2 _ I2 q2) fun vu s3 ⟨u, H3, I3, pu, q3⟩ => ?_)
  rw [evalPart_none]
  refine wpAny_pure ?_
  have I4 : Inv X pins σ H3 { s3 with heap := s3.heap.push { cls := .type "slice", data := .fields #[vl, vu, .none] } } := I3.kept (t' := s3.toks) fun b ob q => Heap.get?_push_of_some _ q
  obtain ⟨T, id, hT, ht, hg⟩ := hr pins { s3 with heap := s3.heap.push { cls := .type "slice", data := .fields #[vl, vu, .none] } } σ H3 x v vl vu l u s3.heap.objs.size Q I4 r1 (Heap.IsSliceOf.new ..) pl pu q3
  show wpAny (model X.prog X.w) X.A (subscriptTail e (.Slice lo hi none p2) v (.ref s3.heap.objs.size)) (EP X pins σ Q) X.xe { s3 with heap := s3.heap.push { cls := .type "slice", data := .fields #[vl, vu, .none] } }
  exact tail_any (ops := [.ref s3.heap.objs.size, v]) ht hT hg (by with_unfolding_all rfl)
def cutV (xs : List V) (lo hi : Option Int) : List V := (xs.drop (HT.sIx xs.length 0 lo)).take (HT.sIx xs.length xs.length hi - HT.sIx xs.length 0 lo)
theorem cutV_length (xs : List V) (lo hi : Option Int) : (cutV xs lo hi).length ≤ xs.length := by
  unfold cutV
  rw [List.length_take, List.length_drop]
  omega
def rSlT (K : PySem.W.Frag) : V → Option Int → Option Int → Hp → VK → Prop := fun x lo hi H Q => ∃ a xs, x = .ref a ∧ SqT K H a xs ∧
  ¬ (HT.sIx xs.length 0 lo = 0 ∧ HT.sIx xs.length xs.length hi = xs.length) ∧ ∀ p, H p = none → Q (.ref p) (upd H p (.tup (cutV xs lo hi)))
theorem sl_tup : SlR X (rSlT X.K) := by
  intro pins s σ H x v vl vu lo hi sl Q I rx hs pl pu h
  obtain ⟨a, xs, rfl, hx, hw, q⟩ := h
  cases rx
  obtain ⟨its, r, ht, hz⟩ := I.tuple hx
  have hlen : its.toArray.size = xs.length := by rw [List.size_toArray]; exact r.length.symm
  refine ⟨"tuple", _, PyProof.Rows.slot_tuple_getitem.lookup, ht.typeIs, ?_⟩
  refine HT.getItem_tuple_cut ht hs pl pu (by rw [hlen]; exact hw) ?_ (by rw [hlen]; exact hz)
  rw [hlen]
  refine ⟨.ref s.heap.objs.size, _, I.laid (t' := s.toks) (o := .tup (cutV xs lo hi)) (fun b ob q => Heap.get?_push_of_some _ q) (Nat.le_refl _) ?_, rfl, q _ (I.hok.fresh (Nat.le_refl _))⟩
  exact ⟨Nat.le_trans (cutV_length xs lo hi) hz, _, (r.drop (HT.sIx xs.length 0 lo)).take (HT.sIx xs.length xs.length hi - HT.sIx xs.length 0 lo), IsTup.new _ _⟩
def rCatT (K : PySem.W.Frag) : R2 := fun x y H Q => ∃ a b xs ys, x = .ref a ∧ y = .ref b ∧ SqT K H a xs ∧ SqT K H b ys ∧ xs ≠ [] ∧ xs.length + ys.length ≤ sizeLine ∧
  (ys = [] → Q (.ref a) H) ∧ (ys ≠ [] → ∀ p, H p = none → Q (.ref p) (upd H p (.tup (xs ++ ys))))
theorem Vals.nil_iff {xs : List V} {us : List Value} (r : Vals xs us) : us = [] ↔ xs = [] := by
  cases r with
  | nil => simp
  | cons _ _ => simp
theorem op_catT : OpR X (binaryOp .Add) (rCatT X.K) := by
  intro pins s σ H x y v u Q I rx ry h
  obtain ⟨a, b, xs, ys, rfl, rfl, ha, hb, hx, hz, q1, q2⟩ := h
  cases rx
  cases ry
  obtain ⟨its, r1, p1, _⟩ := I.tuple ha
  obtain ⟨its2, r2, p2, _⟩ := I.tuple hb
  refine HT.cat_tup p1 p2 (fun z => hx (r1.nil_iff.mp z)) (fun z => ⟨.ref a, H, I, rfl, q1 (r2.nil_iff.mp z)⟩) (fun z => ?_) (by rw [← r1.length, ← r2.length]; exact hz)
  refine ⟨.ref s.heap.objs.size, _, I.laid (t' := s.toks) (o := .tup (xs ++ ys)) (fun b ob q => Heap.get?_push_of_some _ q) (Nat.le_refl _) ?_, rfl, q2 (fun w => z (r2.nil_iff.mpr w)) _ (I.hok.fresh (Nat.le_refl _))⟩
  exact ⟨by rw [List.length_append]; exact hz, _, r1.append r2, IsTup.new _ _⟩
end
end L2
namespace L2
open PySem PySem.Spec PyProof.Rows
def ixN (n : Nat) (i : Int) : Option Nat := if 0 ≤ i then (if i < n then some i.toNat else none) else if -(n : Int) ≤ i then some (i + n).toNat else none
def atI {α : Type} (xs : List α) (i : Int) : Option α := (ixN xs.length i).bind fun j => xs[j]?
theorem ixN_seq {n : Nat} {i : Int} {j : Nat} (h : ixN n i = some j) : seqIndex? i n = some j ∧ j < n ∧ -(n : Int) ≤ i ∧ i < n := by
  unfold ixN at h
  by_cases h0 : 0 ≤ i
  · rw [if_pos h0] at h
    by_cases h1 : i < n
    · rw [if_pos h1] at h
      have e : i.toNat = j := Option.some.inj h
      exact ⟨by rw [seqIndex_of h0 h1, e], by omega, by omega, h1⟩
    · rw [if_neg h1] at h; cases h
  · rw [if_neg h0] at h
    by_cases h1 : -(n : Int) ≤ i
    · rw [if_pos h1] at h
      have e : (i + n).toNat = j := Option.some.inj h
      exact ⟨by rw [seqIndex_neg (by omega) h1, e], by omega, h1, by omega⟩
    · rw [if_neg h1] at h; cases h
theorem atI_get {α : Type} {xs : List α} {i : Int} {v : α} (h : atI xs i = some v) : ∃ j, seqIndex? i xs.length = some j ∧ xs[j]? = some v ∧ j < xs.length ∧ -(xs.length : Int) ≤ i ∧ i < xs.length := by
  unfold atI at h
  cases e : ixN xs.length i with
  | none => rw [e] at h; cases h
  | some j =>
    rw [e] at h
    obtain ⟨h1, h2, h3, h4⟩ := ixN_seq e
    exact ⟨j, h1, h, h2, h3, h4⟩
theorem atI_nat {α : Type} {xs : List α} {j : Nat} {v : α} (h : xs[j]? = some v) : atI xs (j : Int) = some v := by
  have hj : j < xs.length := (List.getElem?_eq_some_iff.mp h).1
  have e : ixN xs.length (j : Int) = some j := by
    unfold ixN
    rw [if_pos (by omega), if_pos (by omega)]; simp
  unfold atI; rw [e]; exact h
def PlainIx (b : Expr) : Prop := ∀ o i, subscripted b false o i = operate [o, i] (getItem o i)
def IxR (X : Cx) (r : R2) : Prop :=
  ∀ (value slice : Expr) (pins : List (Addr × Obj)) (s : Shared) (σ : St) (H : Hp) (x y : V) (v u : Value) (Q : VK), Inv X pins σ H s → RelV x v → RelV y u → r x y H Q →
    subscripted slice false v u = operate [v, u] (getItem v u) → wpAny (model X.prog X.w) X.A (subscriptTail value slice v u) (EP X pins σ Q) X.xe s
def MtR (X : Cx) (id : String) (r : V → List V → Hp → VK → Prop) : Prop :=
  ∀ (pins : List (Addr × Obj)) (s : Shared) (σ : St) (H : Hp) (x : V) (xs : List V) (v : Value) (us : List Value) (Q : VK), Inv X pins σ H s → RelV x v → Vals xs us → r x xs H Q →
    wpAny (model X.prog X.w) X.A (call (.builtin id) (v :: us)) (EP X pins σ Q) X.xe s
section
variable {X : Cx} {a b : Expr} {ta tb : TE} {pos : Pos}
theorem pe_ix {r : R2} (hr : IxR X r) (ha : PE X a ta) (hb : PE X b tb) (hs : PlainIx b) : PE X (.Subscript a b pos) (tOp r ta tb) := by
  intro pins s σ H Q I h
  exact Subscript_ (binT ha hb I h fun v u s2 x y H2 I2 rx ry q => hr a b pins s2 σ H2 x y v u Q I2 rx ry q (hs _ _))
def rIxL (K : PySem.W.Frag) : R2 := fun x y H Q => ∃ p xs i v, x = .ref p ∧ y = .int i ∧ SqL K H p xs ∧ atI xs i = some v ∧ Q v H
def rIxT (K : PySem.W.Frag) : R2 := fun x y H Q => ∃ p xs i v, x = .ref p ∧ y = .int i ∧ SqT K H p xs ∧ atI xs i = some v ∧ Q v H
def rIxS : R2 := fun x y H Q => ∃ z i c, x = .str z ∧ y = .int i ∧ z.length ≤ sizeLine ∧ atI z.cps.toList i = some c ∧ Q (.str ⟨#[c]⟩) H
theorem ix_list : IxR X (rIxL X.K) := by
  intro value slice pins s σ H x y v u Q I rx ry h hs
  obtain ⟨p, xs, i, z, rfl, rfl, hq, he, q⟩ := h
  cases rx
  obtain ⟨t, rfl⟩ := ry
  obtain ⟨its, r, pl, hz⟩ := I.list hq
  obtain ⟨j, h1, h2, h3, h4, h5⟩ := atI_get he
  obtain ⟨w, ew, rw'⟩ := r.get h2
  have hl := r.length
  have hn := line63
  have fin : EP X pins σ Q w s := ⟨z, H, I, rw', q⟩
  by_cases h0 : 0 ≤ i
  · have hj : i.toNat = j := by
      rw [seqIndex_of h0 h5] at h1
      exact Option.some.inj h1
    exact item_listR pl.isList h0 (by omega) (by rw [hj]; simpa using ew) fin hs
  · have hj : (i + (its.toArray.size : Int)).toNat = j := by
      rw [seqIndex_neg (by omega) h4] at h1
      rw [List.size_toArray, ← hl]
      exact Option.some.inj h1
    exact subscriptTail_builtinR (x := w) pl.isList.typeIs slot_list_getitem.lookup
      (wpAny_getItem_list_neg (Q := fun r s' => r = w ∧ EP X pins σ Q r s') pl.isList (by omega) (by rw [List.size_toArray] <;> omega) (by omega) (by rw [hj]; simpa using ew) ⟨rfl, fin⟩) hs
theorem ix_tup : IxR X (rIxT X.K) := by
  intro value slice pins s σ H x y v u Q I rx ry h hs
  obtain ⟨p, xs, i, z, rfl, rfl, hq, he, q⟩ := h
  cases rx
  obtain ⟨t, rfl⟩ := ry
  obtain ⟨its, r, pl, hz⟩ := I.tuple hq
  obtain ⟨j, h1, h2, h3, h4, h5⟩ := atI_get he
  obtain ⟨w, ew, rw'⟩ := r.get h2
  have hl := r.length
  have hn := line63
  have fin : EP X pins σ Q w s := ⟨z, H, I, rw', q⟩
  exact subscriptTail_builtinR (x := w) pl.typeIs slot_tuple_getitem.lookup
    (getItem_tuple (j := j) (Q := fun r s' => r = w ∧ EP X pins σ Q r s') pl (by omega) (by omega) (by rw [List.size_toArray, ← hl]; exact h1) (by simpa using ew) ⟨rfl, fin⟩) hs
theorem ix_str : IxR X rIxS := by
  intro value slice pins s σ H x y v u Q I rx ry h hs
  obtain ⟨z, i, c, rfl, rfl, hz, he, q⟩ := h
  obtain ⟨t, rfl⟩ := rx
  obtain ⟨t', rfl⟩ := ry
  obtain ⟨j, h1, h2, h3, h4, h5⟩ := atI_get he
  have hl : z.cps.toList.length = z.length := by simp [Str.length]
  rw [hl] at h1 h4 h5
  have hn := line63
  exact tail_any (typeIs_str s z t) slot_str_getitem.lookup (getItem_str (c := c) (by
    have e1 : decide (i < -(2 ^ 63 : Int)) = false := decide_eq_false (by omega)
    have e2 : decide (i ≥ 2 ^ 63) = false := decide_eq_false (by omega)
    rw [e1, e2, Bool.or_false]) (by rw [h1]; simpa using h2) ⟨.str ⟨#[c]⟩, H, I.tok _, ⟨_, rfl⟩, q⟩) hs
theorem Inv.lst {pins : List (Addr × Obj)} {σ : St} {H : Hp} {s : Shared} {p : Addr} {xs : List V} (I : Inv X pins σ H s) (h : H p = some (.lst xs)) :
    ∃ (its : List Value) (n : Nat), Vals xs its ∧ s.heap.get? p = some { cls := .type "list", data := .seq its.toArray n } ∧ xs.length ≤ sizeLine := by
  obtain ⟨z, its, n, r, e⟩ := I.hok p _ h
  exact ⟨its, n, r, e, z⟩
def rSetL : V → V → V → Hp → (Hp → Prop) → Prop := fun o i v H Q => ∃ p xs k j, o = .ref p ∧ i = .int k ∧ H p = some (.lst xs) ∧ ixN xs.length k = some j ∧ Q (upd H p (.lst (xs.set j v)))
theorem slice_bounds (lo hi : Option Int) (n : Nat) : (sliceBounds lo hi none n).1 = ((HT.sIx n 0 lo : Nat) : Int) ∧ (sliceBounds lo hi none n).2.1 = ((HT.sIx n n hi : Nat) : Int) ∧ (sliceBounds lo hi none n).2.2 = 1 := by
  refine ⟨?_, ?_, rfl⟩
  · cases lo with
    | none => simp [sliceBounds, HT.sIx]
    | some i =>
      simp only [sliceBounds, HT.sIx, Option.getD_none, show (1 : Int) > 0 by decide, if_true]
      by_cases h : i < 0
      · simp only [h, if_true] <;> omega
      · simp only [h, if_false] <;> omega
  · cases hi with
    | none => simp [sliceBounds, HT.sIx]
    | some i =>
      simp only [sliceBounds, HT.sIx, Option.getD_none, show (1 : Int) > 0 by decide, if_true]
      by_cases h : i < 0
      · simp only [h, if_true] <;> omega
      · simp only [h, if_false] <;> omega
theorem slicePick_cut (its : List Value) (lo hi : Option Int) : slicePick its.toArray lo hi none = ((its.drop (HT.sIx its.length 0 lo)).take (HT.sIx its.length its.length hi - HT.sIx its.length 0 lo)).toArray := by
  obtain ⟨h1, h2, h3⟩ := slice_bounds lo hi its.toArray.size
  unfold slicePick
  rw [h1, h2, h3]
  simp only [sliceRange_one, pick_run, List.size_toArray] <;> rfl
def rSlL (K : PySem.W.Frag) : V → Option Int → Option Int → Hp → VK → Prop := fun x lo hi H Q => ∃ a xs, x = .ref a ∧ SqL K H a xs ∧ ∀ p, H p = none → Q (.ref p) (upd H p (.lst (cutV xs lo hi)))
theorem sl_list : SlR X (rSlL X.K) := by
  intro pins s σ H x v vl vu lo hi sl Q I rx hs pl pu h
  obtain ⟨a, xs, rfl, hx, q⟩ := h
  cases rx
  obtain ⟨its, r, ht, hz⟩ := I.list hx
  have hlen := r.length
  refine ⟨"list", _, slot_list_getitem.lookup, ht.isList.typeIs, ?_⟩
  refine wpAny_getItem_list_slice ht.isList hs pl pu .none (by simp) ?_ (by rw [List.size_toArray] <;> omega)
  rw [slicePick_cut, ← hlen]
  refine ⟨.ref s.heap.objs.size, _, I.laid (t' := s.toks) (o := .lst (cutV xs lo hi)) (fun b ob q => Heap.get?_push_of_some _ q) (Nat.le_refl _) ?_, rfl, q _ (I.hok.fresh (Nat.le_refl _))⟩
  exact ⟨Nat.le_trans (cutV_length xs lo hi) hz, _, 0, (r.drop (HT.sIx xs.length 0 lo)).take (HT.sIx xs.length xs.length hi - HT.sIx xs.length 0 lo), Heap.get?_push_size _ rfl⟩
def flatV : V → Bool
  | .non => true
  | .bl _ => true
  | .int _ => true
  | .str _ => true
  | _ => false
def eqV : V → V → Bool
  | .non, .non => true
  | .bl a, .bl b => a == b
  | .bl a, .int b => (if a then 1 else 0) == b
  | .int a, .bl b => a == (if b then 1 else 0)
  | .int a, .int b => a == b
  | .str a, .str b => a == b
  | _, _ => false
theorem eqAt_V {A : Around} {s : Shared} {y x : V} {u v : Value} (ry : RelV y u) (rx : RelV x v) (fy : flatV y = true) (fx : flatV x = true) : SeqAt.EqAt A s u v (eqV y x) := by
  cases y with
  | non =>
    cases ry
    cases x with
    | non => cases rx; exact SeqAt.EqAt.same _
    | bl b => cases rx; exact SeqAt.EqAt.none_bool b
    | int b => obtain ⟨t, rfl⟩ := rx; exact SeqAt.EqAt.none_int b t
    | str b => obtain ⟨t, rfl⟩ := rx; exact SeqAt.EqAt.none_str b t
    | _ => exact absurd (show false = true from fx) Bool.false_ne_true
  | bl a =>
    cases ry
    cases x with
    | non => cases rx; exact SeqAt.EqAt.bool_none a
    | bl b => cases rx; exact SeqAt.EqAt.bool_bool a b
    | int b => obtain ⟨t, rfl⟩ := rx; exact SeqAt.EqAt.bool_int a b t
    | str b => obtain ⟨t, rfl⟩ := rx; exact SeqAt.EqAt.bool_str a b t
    | _ => exact absurd (show false = true from fx) Bool.false_ne_true
  | int a =>
    obtain ⟨t', rfl⟩ := ry
    cases x with
    | non => cases rx; exact SeqAt.EqAt.int_none a t'
    | bl b => cases rx; exact SeqAt.EqAt.int_bool a t' b
    | int b => obtain ⟨t, rfl⟩ := rx; exact SeqAt.EqAt.int_int a t' b t
    | str b => obtain ⟨t, rfl⟩ := rx; exact SeqAt.EqAt.int_str a t' b t
    | _ => exact absurd (show false = true from fx) Bool.false_ne_true
  | str a =>
    obtain ⟨t', rfl⟩ := ry
    cases x with
    | non => cases rx; exact SeqAt.EqAt.str_none a t'
    | bl b => cases rx; exact SeqAt.EqAt.str_bool a t' b
    | int b => obtain ⟨t, rfl⟩ := rx; exact SeqAt.EqAt.str_int a t' b t
    | str b => obtain ⟨t, rfl⟩ := rx; exact SeqAt.EqAt.str_str a t' b t
    | _ => exact absurd (show false = true from fx) Bool.false_ne_true
  | _ => exact absurd (show false = true from fy) Bool.false_ne_true
def eqU (x : V) (u : Value) : Bool := match u with
  | .none => eqV .non x
  | .bool b => eqV (.bl b) x
  | .int i _ => eqV (.int i) x
  | .str z _ => eqV (.str z) x
  | _ => false
theorem eqU_of {x y : V} {u : Value} (r : RelV y u) (f : flatV y = true) : eqU x u = eqV y x := by
  cases y with
  | non => cases r; rfl
  | bl b => cases r; rfl
  | int i => obtain ⟨t, rfl⟩ := r; rfl
  | str z => obtain ⟨t, rfl⟩ := r; rfl
  | _ => exact absurd (show false = true from f) Bool.false_ne_true
theorem any_eqU {x : V} : ∀ {xs : List V} {us : List Value}, Vals xs us → xs.all flatV = true → us.any (eqU x) = xs.any fun y => eqV y x
  | _, _, .nil, _ => rfl
  | y :: xs, u :: us, .cons r t, f => by
    rw [List.all_cons, Bool.and_eq_true] at f
    rw [List.any_cons, List.any_cons, eqU_of r f.1, any_eqU t f.2]
theorem mem_eqAt {A : Around} {s : Shared} {x : V} {v : Value} (rx : RelV x v) (fx : flatV x = true) : ∀ {xs : List V} {us : List Value}, Vals xs us → xs.all flatV = true → ∀ u ∈ us, SeqAt.EqAt A s u v (eqU x u)
  | _, _, .nil, _ => fun u hu => by cases hu
  | y :: xs, u :: us, .cons r t, f => fun u' hu => by
    rw [List.all_cons, Bool.and_eq_true] at f
    rcases List.mem_cons.mp hu with rfl | hu
    · rw [eqU_of r f.1]; exact eqAt_V r rx f.1 fx
    · exact mem_eqAt rx fx t f.2 u' hu
def inV (x : V) (xs : List V) : Bool := xs.any fun y => eqV y x
def rIn (K : PySem.W.Frag) (neg : Bool) : R2 := fun x y H Q => ∃ p xs, y = .ref p ∧ (SqL K H p xs ∨ SqT K H p xs) ∧ flatV x = true ∧ xs.all flatV = true ∧ Q (.bl (if neg then !inV x xs else inV x xs)) H
theorem op_in_seq : OpR X (compareOp .In) (rIn X.K false) := by
  intro pins s σ H x y v u Q I rx ry h
  obtain ⟨p, xs, rfl, hq, fx, fs, q⟩ := h
  cases ry
  rcases hq with hq | hq
  · obtain ⟨its, r, pl, hz⟩ := I.list hq
    refine SeqAt.in_listAt (eqU x) pl.isList (fun w hw => mem_eqAt rx fx r fs w (by simpa using hw)) ⟨.bl _, H, I, rfl, ?_⟩
    rw [show its.toArray.any (eqU x) = its.any (eqU x) by simp, any_eqU r fs]
    exact q
  · obtain ⟨its, r, pl, hz⟩ := I.tuple hq
    refine SeqAt.in_tupleAt (eqU x) pl (fun w hw => mem_eqAt rx fx r fs w (by simpa using hw)) ⟨.bl _, H, I, rfl, ?_⟩
    rw [show its.toArray.any (eqU x) = its.any (eqU x) by simp, any_eqU r fs]
    exact q
theorem call_len_seq : CallR X (.builtin "len") (fun xs H Q => ∃ p ys, xs = [.ref p] ∧ (SqL X.K H p ys ∨ SqT X.K H p ys) ∧ Q (.int ys.length) H) := by
  intro pins s σ H xs us Q I r h
  obtain ⟨p, ys, rfl, hq, q⟩ := h
  obtain ⟨u, rfl, rx⟩ := vals1 r
  cases rx
  have hn := line63
  rcases hq with hq | hq
  · obtain ⟨its, r', pl, hz⟩ := I.list hq
    have hlen := r'.length
    exact Calls.call_len_list pl.isList (by simp only [List.size_toArray] <;> omega) ⟨.int ys.length, H, I.tok _, ⟨s.toks + 1, by rw [List.size_toArray, hlen]⟩, q⟩
  · obtain ⟨its, r', pl, hz⟩ := I.tuple hq
    have hlen := r'.length
    exact len_tuple pl (by simp only [List.size_toArray] <;> omega) ⟨.int ys.length, H, I.tok _, ⟨s.toks + 1, by rw [List.size_toArray, hlen]⟩, q⟩
theorem call_len_str : CallR X (.builtin "len") (fun xs H Q => ∃ z, xs = [.str z] ∧ z.length ≤ sizeLine ∧ Q (.int z.length) H) := by
  intro pins s σ H xs us Q I r h
  obtain ⟨z, rfl, hz, q⟩ := h
  obtain ⟨u, rfl, t, rfl⟩ := vals1 r
  have hn := line63
  exact len_str (by omega) ⟨.int z.length, H, I.tok _, ⟨_, rfl⟩, q⟩
theorem call_tuple_of : CallR X (.type "tuple") (fun xs H Q => ∃ p ys, xs = [.ref p] ∧ ((SqL X.K H p ys ∧ ∀ l, H l = none → Q (.ref l) (upd H l (.tup ys))) ∨ (SqT X.K H p ys ∧ Q (.ref p) H))) := by
  intro pins s σ H xs us Q I r h
  obtain ⟨p, ys, rfl, h⟩ := h
  obtain ⟨u, rfl, rx⟩ := vals1 r
  cases rx
  rcases h with ⟨hq, q⟩ | ⟨hq, q⟩
  · obtain ⟨its, r', pl, hz⟩ := I.list hq
    have hlen := r'.length
    refine call_tuple_list pl.isList (fun h' kp => ?_) (by simp only [List.size_toArray] <;> omega)
    have I1 : Inv X pins σ H { s with heap := h' } := I.kept (t' := s.toks) kp
    have I2 : Inv X pins σ (upd H h'.objs.size (.tup ys)) { s with heap := h'.push { cls := .type "tuple", data := .seq its.toArray } } :=
      I1.laid (t' := s.toks) (fun b o e => Heap.get?_push_of_some _ e) (Nat.le_refl _) (show ObjOk X.prog X.w _ _ _ (.tup ys) from ⟨hz, its, r', IsTup.new _ _⟩)
    exact ⟨.ref h'.objs.size, _, I2, rfl, q _ (I1.hok.fresh (Nat.le_refl _))⟩
  · obtain ⟨its, r', pl, hz⟩ := I.tuple hq
    exact call_tuple_same pl ⟨.ref p, H, I, rfl, q⟩
def tyV (K : PySem.W.Frag) (T : String) (x : V) (H : Hp) : Prop := match x with
  | .str _ => T = "str"
  | .int _ => T = "int"
  | .ref p => (T = "list" ∧ ∃ xs, SqL K H p xs) ∨ (T = "tuple" ∧ ∃ o, K.lookup p = some o ∧ o.cls = .type "tuple" ∧ o.dict = none) ∨
      (T = "dict" ∧ ((∃ kvs, H p = some (.dK kvs)) ∨ ∃ kvs, H p = some (.dT kvs))) ∨ (T = "set" ∧ ∃ S n, H p = some (.set S n))
  | _ => False
theorem tyV_is {pins : List (Addr × Obj)} {σ : St} {H : Hp} {s : Shared} {T : String} {x : V} {v : Value} (I : Inv X pins σ H s) (r : RelV x v) (ty : tyV X.K T x H) :
    s.TypeIs v T ∧ ∀ a, v = .ref a → ∃ ob, s.heap.get? a = some ob ∧ ob.dict = none := by
  cases x with
  | str z =>
    obtain ⟨t, rfl⟩ := r
    cases (show T = "str" from ty)
    exact ⟨typeIs_str s z t, fun _ e => nomatch e⟩
  | int i =>
    obtain ⟨t, rfl⟩ := r
    cases (show T = "int" from ty)
    exact ⟨typeIs_int s i t, fun _ e => nomatch e⟩
  | ref p =>
    cases r
    rcases ty with ⟨rfl, xs, hq⟩ | ⟨rfl, o, hk, hc, hd⟩ | ⟨rfl, hk⟩ | ⟨rfl, S, n, hk⟩
    · obtain ⟨its, _, pl, _⟩ := I.list hq
      refine ⟨pl.isList.typeIs, fun a e => ?_⟩
      cases e
      obtain ⟨o, n, e, c, hd, _⟩ := pl
      exact ⟨o, e, hd⟩
    · refine ⟨⟨o, I.kIn p o hk, hc⟩, fun a e => ?_⟩
      cases e
      exact ⟨o, I.kIn _ o hk, hd⟩
    · have z : ∃ o, s.heap.get? p = some o ∧ o.ExactDict := by
        rcases hk with ⟨kvs, hk⟩ | ⟨kvs, hk⟩
        · obtain ⟨_, _, _, _, o, _, _, e, ex, _⟩ := I.hok p _ hk
          exact ⟨o, e, ex⟩
        · obtain ⟨_, _, _, _, o, _, _, e, ex, _⟩ := I.hok p _ hk
          exact ⟨o, e, ex⟩
      obtain ⟨o, e, ex⟩ := z
      refine ⟨⟨o, e, ex.1⟩, fun a e2 => ?_⟩
      cases e2
      exact ⟨o, e, ex.2.1⟩
    · obtain ⟨o, _, _, _, e, ex, _⟩ := I.hok p _ hk
      refine ⟨⟨o, e, ex.1⟩, fun a e2 => ?_⟩
      cases e2
      exact ⟨o, e, ex.2.1⟩
  | _ => exact False.elim ty
def tBM0 (K : PySem.W.Frag) (T : String) (r : V → List V → Hp → VK → Prop) (to : TE) : TE := fun σ H Q => to σ H fun x H1 => tyV K T x H1 ∧ r x [] H1 Q
def tBM (K : PySem.W.Frag) (T : String) (r : V → List V → Hp → VK → Prop) (to : TE) (t : TA) : TE := fun σ H Q => to σ H fun x H1 => tyV K T x H1 ∧ t σ H1 fun xs H2 => r x xs H2 Q
variable {o e : Expr} {es : List Expr} {to : TE} {t : TA} {name : Str} {apos cpos : Pos} {T id : String} {r : V → List V → Hp → VK → Prop}
theorem pe_bm0 (pa : PlainAttrs T) (slot : Slot T name id) (hty : typeOf (.builtin id) = pure (.type "method_descriptor")) (hm : MtR X id r) (ho : PE X o to)
    (hbase : attributeBase o name X.env (eval o X.env) = eval o X.env := by rfl) (hline : (apos.endLine == cpos.line) = true := by rfl) : PE X (.Call (.Attribute o name apos) [] [] cpos) (tBM0 X.K T r to) := by
  intro pins s σ H Q I h
  refine wpAny_Call_method0_late hbase hline (thn (ho pins s σ H _ I h) fun v s1 ⟨x, H1, I1, r1, ty, q1⟩ => ?_)
  obtain ⟨h1, h2⟩ := tyV_is I1 r1 ty
  exact ⟨T, id, pa, slot, hty, h1, h2, Calls.callWith_builtin rfl (PySem.evalArgs_none (hm pins s1 σ H1 x [] v [] Q I1 r1 .nil q1))⟩
theorem pe_bm (pa : PlainAttrs T) (slot : Slot T name id) (hty : typeOf (.builtin id) = pure (.type "method_descriptor")) (hm : MtR X id r) (ho : PE X o to) (ha : PA X (e :: es) t)
    (hbase : attributeBase o name X.env (eval o X.env) = eval o X.env := by rfl)
    (hfew : ((backTo cpos (starEach (e :: es) X.env)).all (fun x => !x.1) && (backToKw cpos (keywordEach [] X.env)).all (fun x => x.1.isSome)
      && decide ((e :: es).length + ([] : List Keyword).length + (if ([] : List Keyword).isEmpty then 0 else 1) < 30)) = true := by rfl)
    (hline : (apos.endLine == cpos.line) = true := by rfl) (hs : starEach (e :: es) X.env = (false, eval e X.env) :: starEach es X.env := by rfl) (hplain : (backTo cpos (starEach es X.env)).any (·.1) = false := by rfl) :
    PE X (.Call (.Attribute o name apos) (e :: es) [] cpos) (tBM X.K T r to t) := by
  intro pins s σ H Q I h
  refine wpAny_Call_method_late hbase hfew hline rfl (thn (ho pins s σ H _ I h) fun v s1 ⟨x, H1, I1, r1, ty, q1⟩ => ?_)
  obtain ⟨h1, h2⟩ := tyV_is I1 r1 ty
  refine ⟨T, id, pa, slot, hty, h1, h2, ?_⟩
  have hA := ha cpos pins s1 σ H1 _ I1 q1
  rw [hs] at hA ⊢
  refine Calls.callWith_builtin (by show (false || (backTo cpos (starEach es X.env)).any (·.1)) = false; rw [hplain] <;> rfl) (Calls.evalArgs_plain ?_)
  exact thn hA fun us s2 ⟨vs, H2, I2, r2, q2⟩ => hm pins s2 σ H2 x vs v us Q I2 r1 r2 q2
end
end L2
namespace L2
open PySem PySem.Spec PyProof.Rows
def MtM (X : Cx) (id : String) (r : V → List V → Hp → VK → Prop) : Prop :=
  ∀ (pins : List (Addr × Obj)) (s : Shared) (σ : St) (H : Hp) (x : V) (xs : List V) (v : Value) (us : List Value) (Q : VK), Inv X pins σ H s → RelV x v → Vals xs us → r x xs H Q →
    wpAny (model X.prog X.w) X.A (call (.builtin id) (v :: us)) (EP X pins σ Q) X.xe s
theorem Vals.one : ∀ {x : V} {us : List Value}, Vals [x] us → ∃ u, us = [u] ∧ RelV x u
  | _, _, .cons r .nil => ⟨_, rfl, r⟩
theorem Vals.zero : ∀ {us : List Value}, Vals [] us → us = []
  | _, .nil => rfl
theorem Vals.dropLast {xs : List V} {us : List Value} (h : Vals xs us) : Vals xs.dropLast us.dropLast := by
  induction h with
  | nil => exact .nil
  | cons r t ih =>
    cases t with
    | nil => exact .nil
    | cons q t' => exact .cons r ih
theorem Vals.eraseIdx : ∀ {xs : List V} {us : List Value} (i : Nat), Vals xs us → Vals (xs.eraseIdx i) (us.eraseIdx i)
  | _, _, _, .nil => .nil
  | _, _, 0, .cons _ t => t
  | _, _, i + 1, .cons r t => .cons r (Vals.eraseIdx i t)
theorem Vals.reverse {xs : List V} {us : List Value} (h : Vals xs us) : Vals xs.reverse us.reverse := by
  induction h with
  | nil => exact .nil
  | cons r t ih => rw [List.reverse_cons, List.reverse_cons]; exact Vals.append ih (.cons r .nil)
theorem Vals.rep {xs : List V} {us : List Value} (h : Vals xs us) : ∀ k : Nat, Vals (List.replicate k xs).flatten (List.replicate k us).flatten
  | 0 => .nil
  | k + 1 => by
    rw [List.replicate_succ, List.replicate_succ, List.flatten_cons, List.flatten_cons]
    exact Vals.append h (Vals.rep h k)
theorem erase_last {α : Type} (l : List α) : l.eraseIdx (l.length - 1) = l.dropLast := by
  induction l with
  | nil => rfl
  | cons a r ih =>
    cases r with
    | nil => rfl
    | cons b r =>
      have e : (a :: b :: r).length - 1 = ((b :: r).length - 1) + 1 := by
        have h1 : (a :: b :: r).length = r.length + 2 := rfl
        have h2 : (b :: r).length = r.length + 1 := rfl
        omega
      rw [e, List.eraseIdx_cons_succ, ih]
      all_goals rfl
section
variable {X : Cx} {pins : List (Addr × Obj)} {σ : St} {H : Hp} {s : Shared} {l b : Addr} {xs ys zs : List V}
theorem Inv.lset {its its' : List Value} {n : Nat} {f : Array Value → Array Value} {t' : Nat} (I : Inv X pins σ H s) (hH : H l = some (.lst xs))
    (e : s.heap.get? l = some { cls := .type "list", data := .seq its.toArray n }) (hf : f its.toArray = its'.toArray) (hv : Vals ys its') (hz : ys.length ≤ sizeLine) :
    Inv X pins σ (upd H l (.lst ys)) { s with heap := s.heap.update l (Obj.mapSeq f), toks := t' } := by
  have q := PySem.IsL.update e f
  rw [hf] at q
  refine I.write (x := l) (e := l) (by rw [hH]; exact trivial) (.inl rfl) (fun b' u hb hu => (Heap.get?_update_other s.heap (Obj.mapSeq f) (Ne.symm hb)).trans hu) ⟨_, q⟩ ?_
  exact ⟨hz, its', _, hv, q⟩
theorem Inv.lnew {its : List Value} {t' : Nat} (I : Inv X pins σ H s) (hv : Vals ys its) (hz : ys.length ≤ sizeLine) :
    Inv X pins σ (upd H s.heap.objs.size (.lst ys)) { s with heap := s.heap.push { cls := .type "list", data := .seq its.toArray }, toks := t' } :=
  I.laid (fun _ _ q => Heap.get?_push_of_some _ q) (Nat.le_refl _) ⟨hz, its, 0, hv, Heap.get?_push_size _ rfl⟩
theorem Inv.fresh (I : Inv X pins σ H s) : H s.heap.objs.size = none := I.hok.fresh (Nat.le_refl _)
theorem Inv.lstM (I : Inv X pins σ H s) (hH : H l = some (.lst xs)) : xs.length ≤ sizeLine ∧ ∃ (its : List Value) (n : Nat), Vals xs its ∧ xs.length = its.length ∧ s.heap.get? l = some { cls := .type "list", data := .seq its.toArray n } := by
  obtain ⟨z, its, n, r, e⟩ := I.hok l _ hH
  exact ⟨z, its, n, r, r.length, e⟩
end
section
variable {X : Cx}
def rAppend : V → List V → Hp → VK → Prop := fun x vs H Q => ∃ l xs y, x = .ref l ∧ vs = [y] ∧ H l = some (.lst xs) ∧ xs.length < sizeLine ∧ Q .non (upd H l (.lst (xs ++ [y])))
theorem mt_append : MtM X "list.append" rAppend := by
  intro pins s σ H x vs v us Q I rx rv h
  obtain ⟨l, xs, y, rfl, rfl, hH, hz, q⟩ := h
  cases rx
  obtain ⟨u, rfl, ru⟩ := rv.one
  obtain ⟨z, its, n, r, hl, e⟩ := I.lstM hH
  refine call_meets F.slot_list_append ⟨_, e, rfl⟩ F.entry_list_append (F.args_list_append_2 _ _) (PySem.list_append l its.toArray n u (by rw [List.size_toArray]; omega)) ⟨e, ?_⟩
  refine ⟨.non, _, I.lset (its' := its ++ [u]) hH e (by simp) (r.append (.cons ru .nil)) ?_, rfl, q⟩
  rw [List.length_append, List.length_singleton]
  omega
def rExtend : V → List V → Hp → VK → Prop := fun x vs H Q => ∃ l b xs zs, x = .ref l ∧ vs = [.ref b] ∧ H l = some (.lst xs) ∧ H b = some (.lst zs) ∧ xs.length + zs.length ≤ sizeLine ∧ Q .non (upd H l (.lst (xs ++ zs)))
def rPop : V → List V → Hp → VK → Prop := fun x vs H Q => ∃ l xs y, x = .ref l ∧ vs = [] ∧ H l = some (.lst xs) ∧ xs[xs.length - 1]? = some y ∧ Q y (upd H l (.lst xs.dropLast))
theorem mt_pop : MtM X "list.pop" rPop := by
  intro pins s σ H x vs v us Q I rx rv h
  obtain ⟨l, xs, y, rfl, rfl, hH, hy, q⟩ := h
  cases rx
  have hus := rv.zero
  subst hus
  obtain ⟨z, its, n, r, hl, e⟩ := I.lstM hH
  obtain ⟨u, hu, ru⟩ := r.get hy
  have hy' : its.toArray[its.toArray.size - 1]? = some u := by
    show its.toArray[its.length - 1]? = some u
    rw [← Array.getElem?_toList, ← hl]
    exact hu
  refine call_meets F.slot_list_pop ⟨_, e, rfl⟩ F.entry_list_pop (F.args_list_pop_1 _) (MeetsSeq.list_pop_last l its.toArray n u hy' (by rw [List.size_toArray]; omega)) ⟨e, ?_⟩
  refine ⟨y, _, I.lset (its' := its.dropLast) hH e ?_ r.dropLast ?_, ru, q⟩
  · show its.toArray.eraseIdxIfInBounds (its.toArray.size - 1) = its.dropLast.toArray
    rw [List.size_toArray, List.eraseIdxIfInBounds_toArray, erase_last]
  · rw [List.length_dropLast]
    omega
def rReverse : V → List V → Hp → VK → Prop := fun x vs H Q => ∃ l xs, x = .ref l ∧ vs = [] ∧ H l = some (.lst xs) ∧ Q .non (upd H l (.lst xs.reverse))
def rCat : R2 := fun x y H Q => ∃ l b xs zs, x = .ref l ∧ y = .ref b ∧ H l = some (.lst xs) ∧ H b = some (.lst zs) ∧ xs.length + zs.length ≤ sizeLine ∧ ∀ p, H p = none → Q (.ref p) (upd H p (.lst (xs ++ zs)))
theorem op_cat : OpR X (binaryOp .Add) rCat := by
  intro pins s σ H x y v u Q I rx ry h
  obtain ⟨l, b, xs, zs, rfl, rfl, hH, hB, hz, q⟩ := h
  cases rx
  cases ry
  obtain ⟨z, its, n, r, hl, e⟩ := I.lstM hH
  obtain ⟨z2, its2, n2, r2, hl2, e2⟩ := I.lstM hB
  refine PySem.P.add_list e e2 ?_ (by rw [List.size_toArray, List.size_toArray]; omega)
  have ea : its.toArray ++ its2.toArray = (its ++ its2).toArray := by simp
  rw [ea]
  exact ⟨.ref _, _, I.lnew (t' := s.toks) (r.append r2) (by rw [List.length_append]; omega), rfl, q _ I.fresh⟩
end
section
variable {prog : Program} {w : World} {A : Around} {E : Value → Shared → Prop} {s : Shared}
set_option maxRecDepth 100000 in
end
section
variable {X : Cx}
end
end L2
namespace Att
open PySem PySem.W PySem.Calls PyProof.Rows
theorem ints_of_wellAll {P : Params} {h : Heap} : ∀ (ns : List Int) (vs : List Value), WellAll P h vs (ns.map WData.int) → IntsAre vs ns := by
  intro ns
  induction ns with
  | nil =>
    intro vs w
    rw [List.map_nil] at w
    cases w
    exact .nil
  | cons n ns ih =>
    intro vs w
    rw [List.map_cons] at w
    cases w with
    | cons a b =>
      cases a
      exact .cons _ _ (ih _ b)
theorem script_of {l : OpenLaw} {n : Nat} (hn : l.most = some n) {P : Params} {h : Heap} {args : List WData} {vals : List Value}
    (hpre : l.row.toRowW.claim.pre args = true) (hwl : WellAll P h vals args) :
    ∃ a vs ns, vals = [Value.ref a] ∧ args = [WData.list (ns.map WData.int)] ∧ h.get? a = some { cls := .type "list", data := .seq vs.toArray } ∧ IntsAre vs ns ∧ ns.length ≤ n := by
  have hsh : WShape.hasAll [] args [.list .int] = true := (pre_splitW hpre).1
  have hc : l.pre.holds [] { args := args } = true := (pre_splitW hpre).2
  obtain ⟨d, r, rfl, h1, h2⟩ := hasAllW_cons hsh
  obtain rfl := hasAllW_nil h2
  obtain ⟨xs, rfl, h3⟩ := hasW_list h1
  obtain ⟨ns, rfl⟩ := items_int h3
  have hlen : ns.length ≤ n := by
    unfold OpenLaw.pre at hc
    have h4 : (WTm.not (.lt (.lit (.int (n : Int))) (.len (.arg 0)))).holds [] { args := [.list (ns.map .int)] } = true := by
      have h4 := (holds_andW hc).1
      rw [hn] at h4
      exact h4
    have h5 := condW_of h4 (w_not (w_lt w_lit (w_len_list (w_arg rfl))))
    rw [List.length_map] at h5
    refine Nat.le_of_not_lt fun q => ?_
    have q' : (n : Int) < ((ns.length : Nat) : Int) := by omega
    first
      | (rw [decide_eq_true q'] at h5; exact absurd h5 (by decide))
      | (simp at h5; omega)
  cases hwl with
  | cons w1 w2 =>
    cases w2
    cases w1 with
    | list ho hall => exact ⟨_, _, ns, rfl, rfl, ho, ints_of_wellAll ns _ hall, hlen⟩
theorem post_true (l : OpenLaw) (args : List WData) : l.row.toRowW.claim.post args (.bool true) args = true :=
  postW_of (r := l.row.toRowW) (X := (true == true))
    (show WShape.has [] (.bool true) .bool = true by first | rfl | decide | simp [WShape.has, WShape.arms, WShape.armsAll])
    (show (WTm.eq .res (.lit (.bool true))).value [] { args := args, res := some (.bool true), after := args } = some (.bool (true == true)) from w_eq_bool (w_res rfl) w_lit) rfl
theorem attach_call {l : OpenLaw} {n : Nat} {q : Program} {loose : List Str} {XP : (Str → Option Value) → Heap → Prop} {YP : World → Heap → Prop} {d : DefRec}
    (hn : l.most = some n) (hdf : d.params.defaults = [])
    (call : ∀ (w : World) (s₀ s₁ : Shared) (mg mb : Str → Option Value) (fa : Addr) (o : Obj) (pm cd doc : Value) (a : Addr) (vs : List Value) (ns : List Int),
      Ground q loose [] XP w s₀ mg mb s₁.heap → YP w s₁.heap →
      s₁.heap.get? fa = some o → o.data = .func (docDef d.name d.params d.body d.scope pm cd doc) → s₁.heap.CodeRec cd d.name → mg d.name = some (.ref fa) →
      s₁.heap.get? a = some { cls := .type "list", data := .seq vs.toArray } → IntsAre vs ns → ns.length ≤ n → s₁.gens = #[] →
      codeAny (model l.prog w) callerA (.call (.ref fa) ⟨[.ref a], []⟩) (fun r s' => r = .ok (.ret (.bool true)) ∧ OldK s₁.heap s'.heap ∧ s'.os = s₁.os ∧ AllBare s'.gens) s₁) :
    WalkO q loose XP YP l.row.toRowW d [] (fun f vs => PySem.call f vs) := by
  intro w s₀ s₁ mg mb G Y fa o pm cd doc dV kV ho hd hcd hD hmg hg args vals as hpre hlay hrd hwl hlo
  obtain rfl : dV = .none := Dflts.none hD hdf
  obtain rfl : kV = .none := Dflts.noKw hD
  obtain ⟨a, vs, ns, rfl, rfl, hobj, hints, hlen⟩ := script_of hn hpre hwl
  refine enter_call (codeAny_mono (call w s₀ s₁ mg mb fa o pm cd doc a vs ns G Y ho (fd_plain hd) hcd hmg hobj hints hlen hg) fun r s' hq => ?_)
  obtain ⟨rfl, h2, h3, h4⟩ := hq
  exact ⟨.inl ⟨.bool true, .bool true, [], rfl, fun _ => rfl, .bool true, post_true l _, fun _ => ⟨List.Pairwise.nil, fun _ hm => (nomatch hm)⟩⟩, h2, h3, h4⟩
section
variable {prog : Program} {w : World} {A : Around} {E : Value → Shared → Prop} {s : Shared} {K : Frag}
end
end Att
namespace L2
open PySem PySem.Spec PyProof.Rows
theorem vals_ints : ∀ {vs : List Value} {ns : List Int}, IntsAre vs ns → Vals (ns.map V.int) vs
  | _, _, .nil => .nil
  | _, _, .cons n t h => .cons ⟨t, rfl⟩ (vals_ints h)
def Only (H : Hp) : Prop := ∀ b, H b = none ∨ ∃ o xs, H b = some (.frz o (.lst xs))
theorem law_call {P : Program} {w : World} {K : PySem.W.Frag} {mg mb : Str → Option Value} {CX : CXT} {k : Nat} {fa a : Addr} {fd : FuncData} {x : Str} {sp : Sp} {s₁ : Shared} {vs : List Value} {ns : List Int}
    (KX : K.In s₁.heap) (hns : s₁.heap.Ns mainGlobals mg) (hb : s₁.heap.Ns builtinsNs mb) (hbb : ∀ x : Str, x ≠ "__name__" → mb x = bootBuiltins x) (hlim : s₁.heap.NoLimit) (hg : s₁.gens = #[])
    (ha : s₁.heap.get? a = some { cls := .type "list", data := .seq vs.toArray }) (hi : IntsAre vs ns) (hl : ns.length ≤ sizeLine) (hr : Room k callerA)
    (F : ∀ base : Heap, K.In base → base.Ns mainGlobals mg → FnOk P w K mg base CX k fa fd [x] sp) (hbind : ∀ (s : Shared) (u : Value), BindsTo s fd ⟨[u], []⟩ [(x, u)])
    (hsp : ∀ H : Hp, Only H → SqL K H a (ns.map V.int) → sp [.ref a] H (fun v _ => v = .bl true) fun _ _ _ => False)
    (hCX : ∀ H e s', CX [] H s₁ (fun _ _ _ => False) e s' → False) :
    codeAny (model P w) callerA (.call (.ref fa) ⟨[.ref a], []⟩) (fun r s' => r = .ok (.ret (.bool true)) ∧ OldK s₁.heap s'.heap ∧ s'.os = s₁.os ∧ AllBare s'.gens) s₁ := by
  have rv := vals_ints hi
  have lenV := hi.length
  have core : ∀ H : Hp, Only H → SqL K H a (ns.map V.int) → HOk P w H s₁.heap → (∀ b, H b ≠ none → b = a) → (H a ≠ none → K.lookup a = none) →
      codeAny (model P w) callerA (.call (.ref fa) ⟨[.ref a], []⟩) (fun r s' => r = .ok (.ret (.bool true)) ∧ OldK s₁.heap s'.heap ∧ s'.os = s₁.os ∧ AllBare s'.gens) s₁ := by
    intro H hO hS hok hA hK
    have base_of : ∀ {b : Addr} {o : Obj}, s₁.heap.get? b = some o → H b = none → (hidT s₁.heap H).get? b = some o := fun e n => hidT_get e n
    have noA : ∀ {b : Addr} {o : Obj} {es : Array DictEntry} {ep : Nat}, s₁.heap.get? b = some o → o.data = .dict es ep → H b = none := fun {b o es ep} e d => by
      cases q : H b with
      | none => rfl
      | some u =>
        have e' : b = a := hA b (by rw [q]; simp)
        subst e'
        rw [ha] at e; cases e
        have d' : Data.seq vs.toArray _ = Data.dict es ep := d
        cases d'
    have nsK : ∀ {b : Addr} {m : Str → Option Value}, s₁.heap.Ns b m → (hidT s₁.heap H).Ns b m := fun {b m} ⟨o, es, ep, e, d, r⟩ => ⟨o, es, ep, base_of e (noA e d), d, r⟩
    have hKb : K.In (hidT s₁.heap H) := fun b o e => base_of (KX b o e) (by
      cases q : H b with
      | none => rfl
      | some u =>
        have e' : b = a := hA b (by rw [q]; simp)
        subst e'
        rw [hK (by rw [q]; simp)] at e; cases e)
    have hM : Mod K mg (hidT s₁.heap H) := ⟨hKb, nsK hns, ⟨mb, nsK hb, hbb⟩, let ⟨mc, h1, h2⟩ := hlim; ⟨mc, nsK h1, h2⟩⟩
    have e0 : Env0 P w K mg (hidT s₁.heap H) callerA [] s₁ H := ⟨rfl, hM, fun b o e => of_hidT e, Nat.le_of_eq (hidT_size _ _), trivial, fun b hb => absurd (show b ∈ ([] : List Addr) from hb) (by simp), hok, .of_eq hg⟩
    refine codeAny_mono ((F _ hKb (nsK hns)).run callerA [] s₁ H ⟨[.ref a], []⟩ [.ref a] [.ref a] _ _ hr e0 (hbind s₁ (.ref a)) (.cons rfl .nil) (hsp H hO hS)) fun r s' h => ?_
    cases r with
    | error e => exact (hCX H e s' h).elim
    | ok fl =>
      cases fl with
      | next => exact False.elim h
      | brk => exact False.elim h
      | cont => exact False.elim h
      | ret u =>
        obtain ⟨v, H', os, bare, un, hok', r', q⟩ := h
        have q' : v = .bl true := q
        subst q'
        obtain rfl : u = Value.bool true := r'
        refine ⟨rfl, OldK.of_keep fun b o e => ?_, os, bare⟩
        cases q : H b with
        | none => exact un.keep b o e q (by intro z; exact absurd (show b ∈ ([] : List Addr) from z) (by simp)) (by simp)
        | some u =>
          rcases hO b with z | ⟨ob, xs, z⟩
          · rw [q] at z; cases z
          · have z2 := un.frzs b ob _ z
            obtain ⟨e1, _⟩ := hok b _ z
            obtain ⟨e2, _⟩ := hok' b _ z2
            rw [e] at e1; cases e1
            exact e2
  cases hk : K.lookup a with
  | some o =>
    have e := KX a o hk
    rw [ha] at e
    cases e
    refine core (fun _ => none) (fun _ => .inl rfl) (.inr ⟨_, vs.toArray, _, hk, rfl, rfl, rfl, by rw [List.size_toArray, lenV]; exact hl, by simpa using rv⟩) (fun b u z => by have z' : (none : Option HO) = some u := z; cases z') (fun b z => absurd rfl z) fun z => absurd rfl z
  | none =>
    refine core (fun b => if b = a then some (.frz { cls := .type "list", data := .seq vs.toArray } (.lst (ns.map V.int))) else none) (fun b => ?_) (.inl (.inr ⟨{ cls := .type "list", data := .seq vs.toArray }, if_pos rfl⟩)) (fun b u z => ?_) (fun b z => ?_) fun _ => hk
    · by_cases hb : b = a
      · exact .inr ⟨_, _, if_pos hb⟩
      · exact .inl (if_neg hb)
    · by_cases hb : b = a
      · have z' := (if_pos hb).symm.trans z
        cases z'
        subst hb
        exact ⟨ha, by rw [List.length_map]; exact hl, vs, _, rv, ha⟩
      · have z' := (if_neg hb).symm.trans z
        cases z'
    · by_cases hb : b = a
      · exact hb
      · exact absurd (if_neg hb) z
end L2
namespace L2
open PySem PySem.Spec PyProof.Rows
abbrev KOf {K : PySem.W.Frag} {h : Heap} (_ : K.In h) : PySem.W.Frag := K
theorem walk_of {l : PySem.W.OpenLaw} {n k : Nat} {q : Program} {loose : List Str} {XP : (Str → Option Value) → Heap → Prop} {YP : World → Heap → Prop} {d : DefRec} {K : Params → PySem.W.Frag} {CX : World → CXT} {sp : World → Sp} {x : Str}
    (hn : l.most = some n) (hn2 : n ≤ sizeLine) (hdf : d.params.defaults = []) (hr : Room k callerA)
    (hY : ∀ (w : World) (h : Heap), YP w h → (K w.params).In h)
    (F : ∀ (w : World) (mg : Str → Option Value) (fa : Addr) (h : Heap), (K w.params).In h → h.Ns mainGlobals mg → mg d.name = some (.ref fa) →
      ∃ fd : FuncData, (∀ (s : Shared) (u : Value), BindsTo s fd ⟨[u], []⟩ [(x, u)]) ∧
        ∀ base : Heap, (K w.params).In base → base.Ns mainGlobals mg → FnOk l.prog w (K w.params) mg base (CX w) k fa fd [x] (sp w))
    (hsp : ∀ (w : World) (H : Hp) (a : Addr) (ns : List Int), ns.length ≤ n → Only H → SqL (K w.params) H a (ns.map V.int) → sp w [.ref a] H (fun v _ => v = .bl true) fun _ _ _ => False)
    (hCX : ∀ (w : World) (H : Hp) (s : Shared) (e : Value) (s' : Shared), CX w [] H s (fun _ _ _ => False) e s' → False) :
    PySem.W.WalkO q loose XP YP l.row.toRowW d [] (fun f vs => PySem.call f vs) := by
  refine Att.attach_call hn hdf fun w s₀ s₁ mg mb fa o pm cd doc a vs ns G Y ho hd hcd hmg hobj hints hlen hg => ?_
  have KX := hY w _ Y
  obtain ⟨fd, hb, hF⟩ := F w mg fa _ KX G.T.g hmg
  exact law_call KX G.T.g G.T.b G.T.builtins G.T.nolimit hg hobj hints (Nat.le_trans hlen hn2) hr hF hb (fun H hO hS => hsp w H a ns hlen hO hS) fun H e s' => hCX w H s₁ e s'
end L2
namespace L2
open PySem PySem.Spec PyProof.Rows
def inClass (s : Stmt) (j : Nat) : Stmt := match s with
  | .ClassDef _ _ _ body _ _ _ _ _ _ _ => body.getD j (.Pass ⟨0, 0, 0, 0⟩)
  | _ => .Pass ⟨0, 0, 0, 0⟩
def defArgs (s : Stmt) : Arguments := match s with
  | .FunctionDef _ a _ _ _ _ _ _ _ _ => a
  | _ => { posonlyargs := [], args := [], vararg := none, kwonlyargs := [], kw_defaults := [], kwarg := none, defaults := [] }
def defBody (s : Stmt) : List Stmt := match s with
  | .FunctionDef _ _ b _ _ _ _ _ _ _ => b
  | _ => []
def defScope (s : Stmt) : Scope := match s with
  | .FunctionDef _ _ _ _ _ _ sc _ _ _ => sc
  | _ => { kind := .function, names := [], isGenerator := false, isCoroutine := false }
abbrev CX0 : CXT := fun _ _ _ _ _ _ => False
abbrev E0 : XK := fun _ _ _ => False
theorem pass0 {X : Cx} : Passes CX0 X E0 := fun _ _ _ _ _ _ _ h => h.elim
structure Fun (K : PySem.W.Frag) (x qual : Str) (st : Stmt) (f : Addr) (fd : FuncData) : Prop where
  ex : ∃ (oc : Value) (od : Option Addr) (kV doc pm : Value) (an : Option Addr) (cdv ct : Value) (osl : Array (Option Value)),
    fd = PySem.W.fnOf x qual (defArgs st) (defBody st) (defScope st) .none kV doc pm an cdv ct ∧ K.lookup f = some ⟨oc, od, .func fd, osl⟩ ∧ PySem.W.codeIn K cdv qual = true
  kp : PySem.W.keepIn K (.ref f) = true
section
variable {P : Program} {w : World} {K : PySem.W.Frag} {mg : Str → Option Value} {base : Heap}
theorem Fun.ok {x qual : Str} {st : Stmt} {f : Addr} {fd : FuncData} {N ps : List Str} {k : Nat} {sp : Sp} (F : Fun K x qual st f fd) (S : FnScope N ps (defScope st)) (len : ∀ vs H Q E, sp vs H Q E → vs.length = ps.length)
    (hbody : ∀ (cdv : Value) (A : Around) (outer : List Env) (s : Shared) (H : Hp) (vs : List V) (Q : VK) (E : XK), Room k (A.deeper (envOfC qual (defScope st) s.heap.objs.size f cdv)) → sp vs H Q E →
      ∃ t, PSs (cxOf CX0 P w K mg base N qual (defScope st) f cdv A outer s H E).nox (defBody st) t ∧ t { nx := fun _ H' => Q .non H', rt := Q } (start N vs) H) : FnOk P w K mg base CX0 (k + 1) f fd ps sp := by
  obtain ⟨oc, od, kV, doc, pm, an, cdv, ct, osl, rfl, lk, hcd⟩ := F.ex
  refine fn_of lk hcd S len fun A outer s H vs Q E hr hsp => ?_
  obtain ⟨t, h, q⟩ := hbody cdv A outer s H vs Q E hr hsp
  exact ⟨t, h.nox, q⟩
theorem Fun.binds {x qual : Str} {st : Stmt} {f : Addr} {fd : FuncData} {ps : List Str} (F : Fun K x qual st f fd)
    (h : ∀ (kV doc pm : Value) (an : Option Addr) (cdv ct : Value) (us : List Value), us.length = ps.length → bindArgs (PySem.W.fnOf x qual (defArgs st) (defBody st) (defScope st) .none kV doc pm an cdv ct) ⟨us, []⟩ = pure (ps.zip us)) : Binds K fd ps [] := by
  obtain ⟨oc, od, kV, doc, pm, an, cdv, ct, osl, rfl, lk, hcd⟩ := F.ex
  exact .all (h kV doc pm an cdv ct)
theorem fun_mk {x qual : Str} {st : Stmt} {f : Addr} {oc : Value} {od an : Option Addr} {osl : Array (Option Value)} {kV doc pm cdv ct : Value} (l : K.lookup f = some ⟨oc, od, .func (PySem.W.fnOf x qual (defArgs st) (defBody st) (defScope st) .none kV doc pm an cdv ct), osl⟩)
    (c : PySem.W.codeIn K cdv qual = true) (k : PySem.W.keepIn K (.ref f) = true) : Fun K x qual st f (PySem.W.fnOf x qual (defArgs st) (defBody st) (defScope st) .none kV doc pm an cdv ct) := ⟨⟨oc, od, kV, doc, pm, an, cdv, ct, osl, rfl, l, c⟩, k⟩
end
theorem small1000 {n : Nat} (h : n ≤ 1000) : n < sizeLine := Nat.lt_of_le_of_lt h (by decide)
section
variable {X : Cx}
theorem pv (i : Nat) {x : Str} {pos : Pos} (hN : X.N[i]? = some x := by rfl) (hv : Vis X.env.scope x := by first | exact Or.inl rfl | exact Or.inr (Or.inl rfl) | exact Or.inr (Or.inr rfl)) (hd : (x == ("__debug__" : Str)) = false := by decide)
    (hcd : (x == ("__classdict__" : Str)) = false := by decide) : PE X (.Name x pos) (tVar i) := pe_var hN hv hd hcd
end
theorem iteF {A B : Prop} (h : B) : if false = true then A else B := by
  rw [if_neg Bool.false_ne_true]
  exact h
theorem iteT {A B : Prop} (h : A) : if true = true then A else B := by
  rw [if_pos rfl]
  exact h
theorem ite2 {c A B : Prop} [Decidable c] (h1 : c → A) (h2 : ¬ c → B) : if c then A else B := by
  by_cases h : c
  · rw [if_pos h]
    exact h1 h
  · rw [if_neg h]
    exact h2 h
def Same (H H' : Hp) : Prop := ∀ b o, H b = some o → H' b = some o
theorem Same.refl (H : Hp) : Same H H := fun _ _ h => h
theorem Same.trans {H H1 H2 : Hp} (a : Same H H1) (b : Same H1 H2) : Same H H2 := fun c o h => b c o (a c o h)
theorem Same.free {H H' : Hp} (e : Same H H') {l : Addr} (h : H' l = Option.none) : H l = Option.none := by
  cases q : H l with
  | none => rfl
  | some o =>
    rw [e l o q] at h
    cases h
theorem Same.seq {K : PySem.W.Frag} {H H' : Hp} {a : Addr} {xs : List V} (e : Same H H') (h : SqL K H a xs) : SqL K H' a xs := by
  rcases h with (h | ⟨o, h⟩) | h
  · exact .inl (.inl (e _ _ h))
  · exact .inl (.inr ⟨o, e _ _ h⟩)
  · exact .inr h
end L2
namespace L2
open PySem PySem.Spec PyProof.Rows
section
variable {P : Program} {w : World} {H : Hp} {h : Heap} {a : Addr} {o : HO}
theorem HOk.track (x : HOk P w H h) (hn : H a = none) (new : ObjOk P w (upd H a o) h a o) : HOk P w (upd H a o) h := fun b u e => by
  by_cases hb : b = a
  · subst hb; rw [upd_same] at e; cases e; exact new
  · rw [upd_ne hb] at e
    exact (x b u e).stay (fun c v _ q => q) (fun c q => by rw [upd_ne (ne_of_none q hn)]; exact q) fun c xs q => by rw [upd_ne (ne_of_none q hn)]; exact q
end
def Its (x : Str) : It := ⟨fun i _ => i < x.cps.size, fun i H v H' => H' = H ∧ ∃ c, x.cps[i]? = some c ∧ v = .str ⟨#[c]⟩, fun i _ => i = x.cps.size⟩
theorem walks_str {prog : Program} {w : World} {A : Around} (hh : A.handled = none) (I : Addr) (x : Str) (t : Tok) : Walks prog w A I [I] [I] x.cps.size (SignAt x) (fun i h => h.IsStrIter I (strIterType x) x t i) := by
  cases ha : x.cps.all (· < 128)
  · have e : strIterType x = "str_iterator" := by simp [strIterType, ha]
    rw [e]; exact Walks.strWide hh I x t
  · have e : strIterType x = "str_ascii_iterator" := by simp [strIterType, ha]
    rw [e]; exact Walks.strAscii hh I x t
theorem turn_str {P : Program} {w : World} {K : PySem.W.Frag} {tg : Expr} (it : Addr) (x : Str) (t : Tok) : Turn P w K tg (Its x) [it] it (fun i h => h.IsStrIter it (strIterType x) x t i) where
  mem := by simp
  obj := fun i h st b hb => by
    have e : b = it := by simpa using hb
    subst e
    obtain ⟨o, ho, _, hd⟩ := st
    exact ⟨o, ho, fun v q => by rw [hd] at q; cases q⟩
  keep := fun i h h' st k => by
    obtain ⟨o, ho, r⟩ := st
    exact ⟨o, k it (by simp) o ho, r⟩
  item := by
    intro X hP hw hK hc i pins s σ H E I hf st hg
    subst hP hw hK
    obtain ⟨f0, f1, f2, f3, f4, f5⟩ := hf it (by simp)
    refine (walks_str (I.ok.hd hc) it x t).item i s _ _ hg st fun v h' tk hv st' kk => ?_
    obtain ⟨c, u, hx, rfl⟩ := hv
    have I1 : Inv X pins σ H { s with heap := h', toks := tk } := I.turned (fun b o hb e => kk b o (by simpa using hb) e) f0 f1 f3 f4 f5
    obtain ⟨o, ho, hcl, hd⟩ := id st'
    refine ⟨_, rfl, go_of (s := { s with heap := h', toks := tk }) (n := strIterType x) ho hcl hd ?_ ⟨.str ⟨#[c]⟩, H, I1, ⟨u, rfl⟩, ⟨rfl, c, hx, rfl⟩, st', fun b hb => (hf b hb).1⟩⟩
    unfold strIterType; split <;> decide
  done := by
    intro X hP hw hK hc i pins s σ H E I hf st hg
    subst hP hw hK
    obtain ⟨f0, f1, f2, f3, f4, f5⟩ := hf it (by simp)
    have hg' : i = x.cps.size := hg
    subst hg'
    exact (walks_str (I.ok.hd hc) it x t).done s _ _ st fun h' tk kk => ⟨rfl, I.turned (fun b o hb e => kk b o (by simpa using hb) e) f0 f1 f3 f4 f5⟩
  self := fun A i s Q E st h => by
    cases ha : x.cps.all (· < 128)
    · have e : strIterType x = "str_iterator" := by simp [strIterType, ha]
      rw [e] at st; exact wpAny_pyIter_striter_wide st h
    · have e : strIterType x = "str_ascii_iterator" := by simp [strIterType, ha]
      rw [e] at st; exact wpAny_pyIter_striter_ascii st h
def iStr (tl : TE) : TI := fun σ H R => tl σ H fun x H1 => ∃ z, x = .str z ∧ R (Its z) H1
theorem pi_str {X : Cx} {tg l : Expr} {tl : TE} (hl : PE X l tl) : PI X tg l (iStr tl) := by
  intro pins s σ H R I h
  refine thn (hl pins s σ H _ I h) fun v s1 ⟨x, H1, I1, r1, q1⟩ => ?_
  obtain ⟨z, e, q⟩ := q1
  subst e
  obtain ⟨t, rfl⟩ := r1
  refine wpAny_pyIter_strU ?_
  refine ⟨s1.heap.objs.size, [s1.heap.objs.size], _, _, H1, rfl, I1.kept (t' := s1.toks) fun b o e => Heap.get?_push_of_some _ e, turn_str _ z t, ⟨_, Heap.get?_push_size _ rfl, rfl, rfl⟩, fun b hb => ?_, q⟩
  have e : b = s1.heap.objs.size := by simpa using hb
  subst e
  exact I1.fpOk (Nat.le_refl _) (I1.hok.fresh (Nat.le_refl _))
section
variable {prog : Program} {w : World} {A : Around} {R : Result → Shared → Prop} {s : Shared}
theorem compLoop_go {elt target iter : Expr} {ifs : List Expr} {scope : Scope} {pos : Pos} {it acc : Value} {env : Env} (I : Nat → Shared → Prop)
    (turn : ∀ n s, I n s → wpAny (model prog w) A (pyNext it) (fun r s₁ => match r with
      | none => R (.ok .next) s₁
      | some v => wpAny (model prog w) A (letOwnedTupleGo target it v) (fun _ s₁' => wpAny (model prog w) A (assign target env v) (fun _ s₂ =>
          wpAny (model prog w) A (forIn ifs true fun c r => if r = true then do let ok ← isTrue c env (eval c env); pure (ForInStep.yield ok) else pure (ForInStep.yield r)) (fun ok s₃ =>
            if ok = true then wpAny (model prog w) A (eval elt env) (fun x s₄ =>
              wpAny (model prog w) A (call (.builtin "list.append") [acc, x]) (fun _ s₅ => ∃ m, m < n ∧ I m s₅) (fun _ _ => False) s₄) (fun _ _ => False) s₃
            else ∃ m, m < n ∧ I m s₃) (fun _ _ => False) s₂) (fun _ _ => False) s₁') (fun _ _ => False) s₁) (fun _ _ => False) s)
    (n : Nat) (h : I n s) :
    codeAny (model prog w) A (.compLoop (.ListComp elt [⟨target, iter, ifs, 0⟩] scope pos) 0 it acc env) R s := by
  refine codeAny_loop rfl I (fun n s hI => ?_) n h
  show wpAny _ A ((compTurn (.ListComp elt [⟨target, iter, ifs, 0⟩] scope pos) 0 it acc env).onRaise (fun x => do noteFrame x env; theTreesLotGoes x)) _ _ s
  refine wpAny_noted ?_
  rw [compTurn_list]
  refine wpAny_bind (wpAny_standAt (wpAny_bind (wpAny_mono (turn n s hI) (fun r s₁ h₁ => ?_) fun _ _ h' => h'.elim)))
  cases r with
  | none => exact wpAny_pure h₁
  | some v =>
    refine wpAny_bind (wpAny_mono h₁ (fun _ s₁' h₁' => wpAny_bind (wpAny_mono h₁' (fun _ s₂ h₂ => wpAny_bind (wpAny_mono h₂ (fun ok s₃ h₃ => ?_) fun _ _ h' => h'.elim)) fun _ _ h' => h'.elim)) fun _ _ h' => h'.elim)
    cases ok with
    | false => exact wpAny_pure ⟨rfl, h₃⟩
    | true =>
      exact wpAny_bind (wpAny_bind (wpAny_mono h₃ (fun x s₄ h₄ => wpAny_bind (wpAny_mono h₄ (fun _ s₅ h₅ => wpAny_pure (wpAny_pure ⟨rfl, h₅⟩)) fun _ _ h' => h'.elim)) fun _ _ h' => h'.elim))
end
def clos (env : Env) : List (Str × NameKind) → List (Str × Addr) → List (Str × Addr)
  | [], acc => acc
  | (n, k) :: r, acc => clos env r (if k == .free then (n, (env.cells.lookup n).getD 0) :: acc else acc)
theorem closureFor_clos {scope : Scope} {env : Env} (h : ∀ y ∈ scope.names, y.2 = .free → ∃ c, env.cells.lookup y.1 = some c) : closureFor scope env = pure (clos env scope.names []) := by
  simp only [closureFor]
  suffices hh : ∀ (l : List (Str × NameKind)) (acc : List (Str × Addr)), (∀ y ∈ l, y.2 = .free → ∃ c, env.cells.lookup y.1 = some c) →
      (forIn l acc fun x r => if (x.2 == NameKind.free) = true then do let a ← cellOf env x.1; pure (ForInStep.yield ((x.1, a) :: r)) else pure (ForInStep.yield r) : Sem (List (Str × Addr))) = pure (clos env l acc) by
    have := hh scope.names [] h
    simp only [bind_pure]
    exact this
  intro l
  induction l with
  | nil => intro acc _; rfl
  | cons y r ih =>
    intro acc hy
    obtain ⟨n, k⟩ := y
    rw [List.forIn_cons]
    cases hk : (k == NameKind.free) with
    | true =>
      obtain ⟨c, hc⟩ := hy (n, k) List.mem_cons_self (by simpa using hk)
      have e1 : cellOf env n = pure c := by unfold cellOf; rw [hc]
      simp only [hk, if_true, e1, pure_bind]
      rw [ih _ fun z hz => hy z (List.mem_cons_of_mem _ hz)]
      simp only [clos, hk, if_true, hc, Option.getD_some]
    | false =>
      simp only [hk, Bool.false_eq_true, if_false, pure_bind]
      rw [ih _ fun z hz => hy z (List.mem_cons_of_mem _ hz)]
      simp only [clos, hk, Bool.false_eq_true, if_false]
theorem clos_val {env : Env} {x : Str} {c : Addr} : ∀ {l : List (Str × NameKind)} {acc : List (Str × Addr)}, (∀ y ∈ l, y.2 = .free → ∃ c, env.cells.lookup y.1 = some c) → (acc.lookup x = some c → env.cells.lookup x = some c) → (clos env l acc).lookup x = some c → env.cells.lookup x = some c
  | [], _, _, ha, e => ha e
  | (n, k) :: r, acc, hl, ha, e => by
    refine clos_val (l := r) (fun z hz => hl z (List.mem_cons_of_mem _ hz)) (fun q => ?_) e
    cases hk : (k == NameKind.free) with
    | false => rw [hk] at q; exact ha q
    | true =>
      rw [hk] at q
      obtain ⟨c', hc⟩ := hl (n, k) List.mem_cons_self (by simpa using hk)
      simp only [if_true, hc, Option.getD_some, List.lookup_cons] at q
      cases hx : (x == n) with
      | true => rw [hx] at q; cases q; rw [show x = n from by simpa using hx]; exact hc
      | false => rw [hx] at q; exact ha q
theorem clos_mem {env : Env} {x : Str} {c : Addr} : ∀ {l : List (Str × NameKind)} {acc : List (Str × Addr)}, (clos env l acc).lookup x = some c → acc.lookup x = some c ∨ (x, NameKind.free) ∈ l
  | [], _, e => .inl e
  | (n, k) :: r, acc, e => by
    rcases clos_mem (l := r) e with q | q
    · cases hk : (k == NameKind.free) with
      | false => rw [hk] at q; exact .inl q
      | true =>
        rw [hk] at q
        simp only [if_true, List.lookup_cons] at q
        cases hx : (x == n) with
        | true =>
          have e1 : x = n := by simpa using hx
          have e2 : k = NameKind.free := by simpa using hk
          subst e1 e2
          exact .inr List.mem_cons_self
        | false => rw [hx] at q; exact .inl q
    · exact .inr (List.mem_cons_of_mem _ q)
theorem clos_has {env : Env} {x : Str} : ∀ {l : List (Str × NameKind)} {acc : List (Str × Addr)}, (∃ c, acc.lookup x = some c) ∨ (x, NameKind.free) ∈ l → ∃ c, (clos env l acc).lookup x = some c
  | [], _, h => h.elim (fun z => z) fun z => nomatch z
  | (n, k) :: r, acc, h => by
    refine clos_has (l := r) ?_
    rcases h with ⟨c, h⟩ | h
    · refine .inl ?_
      cases hk : (k == NameKind.free) with
      | false => exact ⟨c, h⟩
      | true =>
        simp only [if_true, List.lookup_cons]
        cases hx : (x == n) with
        | true => exact ⟨_, rfl⟩
        | false => exact ⟨c, h⟩
    · rcases List.mem_cons.mp h with h | h
      · cases h
        refine .inl ?_
        rw [if_pos (by rfl), List.lookup_cons]
        exact ⟨_, by rw [show (x == x) = true from by simp]⟩
      · exact .inr h
theorem lookup_mem {α : Type} {x : Str} {k : α} : ∀ {l : List (Str × α)}, l.lookup x = some k → (x, k) ∈ l
  | (n, z) :: r, e => by
    rw [List.lookup_cons] at e
    cases hx : (x == n) with
    | true => rw [hx] at e; cases e; rw [show x = n from by simpa using hx]; exact List.mem_cons_self
    | false => rw [hx] at e; exact List.mem_cons_of_mem _ (lookup_mem e)
theorem relab_one (env : Env) (n : Str) (z : NameKind) : ∃ z', (if (z == NameKind.free && env.scope.kind == .function && env.kindOf n == some .cell) = true then (n, NameKind.cell) else (n, z)) = (n, z') ∧ (z' = z ∨ (z = .free ∧ z' = .cell)) := by
  by_cases hc : (z == NameKind.free && env.scope.kind == .function && env.kindOf n == some .cell) = true
  · rw [if_pos hc]
    simp only [Bool.and_eq_true] at hc
    exact ⟨_, rfl, .inr ⟨by simpa using hc.1.1, rfl⟩⟩
  · rw [if_neg hc]; exact ⟨_, rfl, .inl rfl⟩
theorem relabel_kind {env : Env} {x : Str} : ∀ {l : List (Str × NameKind)} {k : NameKind}, l.lookup x = some k →
    ((l.map fun (n, k) => if (k == NameKind.free && env.scope.kind == .function && env.kindOf n == some .cell) then (n, NameKind.cell) else (n, k)).lookup x = some k) ∨
    (k = .free ∧ (l.map fun (n, k) => if (k == NameKind.free && env.scope.kind == .function && env.kindOf n == some .cell) then (n, NameKind.cell) else (n, k)).lookup x = some .cell)
  | (n, z) :: r, k, e => by
    obtain ⟨z', e1, e2⟩ := relab_one env n z
    have ih := fun h => relabel_kind (env := env) (x := x) (l := r) (k := k) h
    rw [List.lookup_cons] at e
    rw [List.map_cons]
    dsimp only
    rw [e1, List.lookup_cons]
    cases hx : (x == n) with
    | true =>
      rw [hx] at e
      cases e
      rcases e2 with e2 | ⟨e2, e3⟩
      · rw [e2]; exact .inl rfl
      · rw [e3]; exact .inr ⟨e2, rfl⟩
    | false => rw [hx] at e; exact ih e
theorem relabel_none {env : Env} {x : Str} : ∀ {l : List (Str × NameKind)}, l.lookup x = none →
    (l.map fun (n, k) => if (k == NameKind.free && env.scope.kind == .function && env.kindOf n == some .cell) then (n, NameKind.cell) else (n, k)).lookup x = none
  | [], _ => rfl
  | (n, z) :: r, e => by
    obtain ⟨z', e1, e2⟩ := relab_one env n z
    have ih := fun h => relabel_none (env := env) (x := x) (l := r) h
    rw [List.lookup_cons] at e
    rw [List.map_cons]
    dsimp only
    rw [e1, List.lookup_cons]
    cases hx : (x == n) with
    | true => rw [hx] at e; cases e
    | false => rw [hx] at e; exact ih e
structure CompScope (N : List Str) (osc scope : Scope) (own cap : List Str) (ix : List Nat) : Prop where
  kind : scope.kind = .function
  cell : ∀ y ∈ scope.names, y.2 ≠ .cell
  names : ∀ y ∈ scope.names, y.2 = .local → scope.names.lookup y.1 = some .local
  free : ∀ y ∈ scope.names, y.2 = .free → y.1 ∈ cap
  ownL : ∀ x ∈ own, scope.names.lookup x = some .local
  capL : ∀ x ∈ cap, scope.names.lookup x = some .free
  out : ∀ x ∈ cap, osc.names.lookup x = some .cell ∨ osc.names.lookup x = some .free
  ixL : ix.map (fun i => N[i]?) = cap.map some
  nd : (own ++ cap).Nodup
def Cx.comp (X : Cx) (scope : Scope) (own cap : List Str) (C : Addr) (s₀ : Shared) (H₀ : Hp) (ex : List Addr) (pn : List (Addr × Obj)) : Cx :=
  { X with N := own ++ cap, s₀ := s₀, H₀ := H₀, env := compEnvC scope (clos X.env scope.names []) C X.env, outer := X.stack, ex := ex, fn := fun x => own.contains x, pn := pn, xe := fun _ _ => False }
def capS (σ : St) (own : List Str) (ix : List Nat) : St := own.map (fun _ => none) ++ ix.map (fun i => (σ[i]?).join)
section
variable {X : Cx} {pins : List (Addr × Obj)} {σ : St} {H : Hp} {s : Shared} {scope : Scope} {own cap : List Str} {ix : List Nat}
theorem CompScope.has (S : CompScope X.N X.env.scope scope own cap ix) (ok : X.Ok) : ∀ y ∈ scope.names, y.2 = .free → ∃ c, X.env.cells.lookup y.1 = some c := fun y hy hf => ok.has y.1 (S.out y.1 (S.free y hy hf))
theorem Inv.comp (I : Inv X pins σ H s) (S : CompScope X.N X.env.scope scope own cap ix) {fp : List Addr} (hf : ∀ b ∈ fp, FpOk X pins H b) (ho : ∀ b ∈ fp, ∃ o, s.heap.get? b = some o)
    {h₁ : Heap} {tk : Nat} {C : Addr} {m : Str → Option Value} (hC : s.heap.objs.size ≤ C) (old : ∀ b o, s.heap.get? b = some o → h₁.get? b = some o) (hns : h₁.Ns C m) :
    Inv (X.comp scope own cap C s H fp (X.pn ++ pins)) [] (capS σ own ix) H { s with heap := h₁, toks := tk } := by
  have cv : ∀ x c, (clos X.env scope.names []).lookup x = some c → X.env.cells.lookup x = some c := fun x c e => clos_val (S.has I.ok) (fun q => by simp at q) e
  have cc : ∀ x c, (clos X.env scope.names []).lookup x = some c → x ∈ cap := fun x c e => by
    rcases clos_mem e with q | q
    · cases q
    · exact S.free _ q rfl
  have kk : ∀ x, ((compEnvC scope (clos X.env scope.names []) C X.env).kindOf x = some .cell ∨ (compEnvC scope (clos X.env scope.names []) C X.env).kindOf x = some .free) → x ∈ cap := fun x hx => by
    cases e : scope.names.lookup x with
    | none =>
      have q := relabel_none (env := X.env) e
      rcases hx with hx | hx
      · have hx' : _ = some NameKind.cell := hx
        exact nomatch q.symm.trans hx'
      · have hx' : _ = some NameKind.free := hx
        exact nomatch q.symm.trans hx'
    | some k =>
      have nc : k ≠ .cell := S.cell _ (lookup_mem e)
      rcases relabel_kind (env := X.env) e with q | ⟨q, _⟩
      · rcases hx with hx | hx
        · have hx' : _ = some NameKind.cell := hx
          exact absurd (Option.some.inj (q.symm.trans hx')) nc
        · have hx' : _ = some NameKind.free := hx
          exact S.free _ (lookup_mem e) (Option.some.inj (q.symm.trans hx'))
      · exact S.free _ (lookup_mem e) q
  have capk : ∀ x ∈ cap, (compEnvC scope (clos X.env scope.names []) C X.env).kindOf x = some .cell ∨ (compEnvC scope (clos X.env scope.names []) C X.env).kindOf x = some .free := fun x hx => by
    rcases relabel_kind (env := X.env) (S.capL x hx) with q | ⟨_, q⟩
    · exact .inr q
    · exact .inl q
  have lt : ∀ {b : Addr} {o : Obj}, s.heap.get? b = some o → b ≠ C := fun e => Nat.ne_of_lt (Nat.lt_of_lt_of_le (Heap.lt_size e) hC)
  have hfs : ∀ b, b ∈ frs X.stack → b ∈ X.env.locals :: X.fs := I.stkSub
  refine ⟨⟨I.ok.mod, S.kind, I.ok.glob, I.ok.blt, hC, fun x y c e1 e2 => I.ok.inj x y c (cv x c e1) (cv y c e2), fun x hx => clos_has (.inr (lookup_mem (S.capL x (kk x hx)))), fun x c hx e => ?_, I.ok.hd, I.ok.frames, .inl rfl, fun b hb => ?_,
    I.bs, Nat.le_trans I.ok.bsz I.sz, fun b o e hb => ?_, fun b hb hb' => ?_, I.stack, I.stkFree⟩, rfl, I.bare, Un.kept old, ?_, fun x c e => ?_, I.hok.fresh hC, fun x c e => I.freeC x c (cv x c e), fun p hp => ?_, I.hok.kept old, ?_⟩
  · exfalso
    have h1 : x ∈ own := by simpa [Cx.comp] using hx
    have h2 : x ∈ cap := cc x c e
    exact (List.nodup_append.mp S.nd).2.2 x h1 x h2 rfl
  · obtain ⟨o, e⟩ := ho b hb
    exact ⟨lt e, fun x c q => (hf b hb).2.2.2.2.1 x c (cv x c q)⟩
  · rcases (hf b hb).2.2.2.1 with z | z
    · exact I.ok.noex b o e z
    · exact absurd (Nat.lt_of_lt_of_le (Heap.lt_size e) (Nat.le_trans I.ok.bsz z)) (Nat.lt_irrefl _)
  · rcases List.mem_cons.mp (hfs b hb') with z | z
    · exact (hf b hb).2.1 z
    · exact (hf b hb).2.2.1 z
  · refine ⟨m, hns, fun i x v e1 e2 _ => ?_⟩
    by_cases hi : i < own.length
    · have e3 : (capS σ own ix)[i]? = some none := by
        unfold capS
        rw [List.getElem?_append_left (by simpa using hi), List.getElem?_map]
        rw [List.getElem?_eq_getElem hi]; rfl
      rw [e3] at e2; cases e2
    · have hj : own.length ≤ i := Nat.not_lt.mp hi
      have e1' : cap[i - own.length]? = some x := by
        have : (own ++ cap)[i]? = some x := e1
        rwa [List.getElem?_append_right hj] at this
      have e4 : (ix.map (fun i => X.N[i]?))[i - own.length]? = some (some x) := by rw [S.ixL, List.getElem?_map, e1']; rfl
      rw [List.getElem?_map] at e4
      cases q : ix[i - own.length]? with
      | none => rw [q] at e4; cases e4
      | some j =>
        rw [q] at e4
        have hNj : X.N[j]? = some x := Option.some.inj e4
        have e5 : (σ[j]?).join = some v := by
          unfold capS at e2
          rw [List.getElem?_append_right (by simpa using hj), List.getElem?_map, List.length_map, q] at e2
          exact Option.some.inj e2
        have e6 : σ[j]? = some (some v) := by
          cases r : σ[j]? with
          | none => rw [r] at e5; cases e5
          | some z => rw [r] at e5; exact congrArg some e5
        have hx : x ∈ cap := List.mem_of_getElem? e1'
        obtain ⟨mo, hn, hl⟩ := I.loc
        obtain ⟨u, ru, lu⟩ := hl j x v hNj e6 (.inr (S.out x hx))
        refine ⟨u, ru, .inr ⟨capk x hx, ?_⟩⟩
        rcases lu with ⟨kx, _⟩ | ⟨_, c, hc, hcell⟩
        · have kx' : X.env.scope.names.lookup x = some .local := kx
          rcases S.out x hx with z | z
          · exact nomatch kx'.symm.trans z
          · exact nomatch kx'.symm.trans z
        · obtain ⟨c', hc'⟩ := clos_has (env := X.env) (x := x) (l := scope.names) (acc := []) (.inr (lookup_mem (S.capL x hx)))
          have : c' = c := Option.some.inj ((cv x c' hc').symm.trans hc)
          subst this
          obtain ⟨oc, hoc, hdc⟩ := hcell
          exact ⟨c', hc', oc, old _ _ hoc, hdc⟩
  · obtain ⟨v, oc, hoc, hdc⟩ := I.cell x c (cv x c e)
    exact ⟨v, oc, old _ _ hoc, hdc⟩
  · have hp' : p ∈ X.pn ++ pins := by simpa [Cx.comp] using hp
    obtain ⟨q1, q2, q3, q4, q5⟩ := I.pin p hp'
    refine ⟨old _ _ q1, q2, lt q1, fun z => ?_, q5⟩
    rcases List.mem_cons.mp (hfs p.1 z) with y | y
    · exact q3 y
    · exact q4 y
  · show (capS σ own ix).length = (own ++ cap).length
    have := congrArg List.length S.ixL
    rw [List.length_map, List.length_map] at this
    unfold capS
    rw [List.length_append, List.length_append, List.length_map, List.length_map, this]
end
def PIfs (X : Cx) (ifs : List Expr) (t : TT) : Prop :=
  ∀ (pins : List (Addr × Obj)) (s : Shared) (σ : St) (H : Hp) (Q : Bool → Hp → Prop), Inv X pins σ H s → t σ H Q →
    wpAny (model X.prog X.w) X.A (forIn ifs true fun c r => if r = true then do let ok ← isTrue c X.env (eval c X.env); pure (ForInStep.yield ok) else pure (ForInStep.yield r)) (TP X pins σ Q) X.xe s
def tYes : TT := fun _ H Q => Q true H
theorem pifs_nil {X : Cx} : PIfs X [] tYes := fun _ _ _ H _ I h => wpAny_tests_nil ⟨H, I, h⟩
def tComp (own : List Str) (ix : List Nat) (wi : TI) (g : TG) (ti : TT) (te : TE) : TE := fun σ H Q => wi σ H fun J H1 =>
  ∃ W : Nat → Nat → List V → St → Hp → Prop, (∃ m, W 0 m [] (capS σ own ix) H1) ∧ ∀ i m ys σ' H, W i m ys σ' H →
    (J.stop i H ∧ ys.length ≤ sizeLine ∧ ∀ D, H D = none → Q (.ref D) (upd H D (.lst ys))) ∨
    (J.go i H ∧ ∀ x H', J.yld i H x H' → g x σ' H' fun σ2 H2 => ti σ2 H2 fun b H3 => if b = true then te σ2 H3 fun y H4 => ys.length < sizeLine ∧ ∃ m', m' < m ∧ W (i + 1) m' (ys ++ [y]) σ2 H4 else ∃ m', m' < m ∧ W (i + 1) m' ys σ2 H3)
section
variable {X : Cx} {pins : List (Addr × Obj)} {σ : St} {scope : Scope} {own cap : List Str} {ix : List Nat} {tg iter elt : Expr} {ifs : List Expr} {pos : Pos}
set_option maxHeartbeats 4000000 in
theorem comp_block {s : Shared} {H : Hp} {it : Addr} {fp : List Addr} {tn : Nat → Heap → Prop} {J : It} {g : TG} {ti : TT} {te : TE} {Q : VK} {W : Nat → Nat → List V → St → Hp → Prop} {E : Value → Shared → Prop} {RR : Value → Addr → Result → Shared → Prop} (hc : X.calm = true)
    (I : Inv X pins σ H s) (S : CompScope X.N X.env.scope scope own cap ix) (T : Turn X.prog X.w X.K tg J fp it tn) (st : tn 0 s.heap) (hf : ∀ b ∈ fp, FpOk X pins H b)
    (hb : ∀ (C : Addr) (s₀ : Shared) (H₀ : Hp) (ex : List Addr) (pn : List (Addr × Obj)), PG (X.comp scope own cap C s₀ H₀ ex pn) tg g ∧ PIfs (X.comp scope own cap C s₀ H₀ ex pn) ifs ti ∧ PE (X.comp scope own cap C s₀ H₀ ex pn) elt te)
    (h0 : ∃ m, W 0 m [] (capS σ own ix) H)
    (turn : ∀ i m ys σ' H, W i m ys σ' H → (J.stop i H ∧ ys.length ≤ sizeLine ∧ ∀ D, H D = none → Q (.ref D) (upd H D (.lst ys))) ∨
      (J.go i H ∧ ∀ x H', J.yld i H x H' → g x σ' H' fun σ2 H2 => ti σ2 H2 fun b H3 => if b = true then te σ2 H3 fun y H4 => ys.length < sizeLine ∧ ∃ m', m' < m ∧ W (i + 1) m' (ys ++ [y]) σ2 H4 else ∃ m', m' < m ∧ W (i + 1) m' ys σ2 H3))
    (hRR : ∀ (D C : Addr) (oC : Obj) (m : Str → Option Value) (H' : Hp) (s' : Shared), s'.heap.get? C = some oC → s'.heap.Ns C m → C ≠ X.env.locals → (X.s₀.heap.objs.size ≤ C) → (∀ x c, X.env.cells.lookup x = some c → c ≠ C) → (∀ p ∈ X.pn ++ pins, p.1 ≠ C) → C ∉ X.fs → H' C = none →
      Inv X pins σ H' s' → Q (.ref D) H' → RR (.ref D) C (.ok .next) s') :
    wpAny (model X.prog X.w) X.A (newList []) (fun acc s₃ => wpAny (model X.prog X.w) X.A (newFunctionEnv scope X.env.globals (clos X.env scope.names []) [] X.env.qual none .none (some X.env)) (fun cenv s₄ =>
      codeAny (model X.prog X.w) X.A (.compStart (.ListComp elt [⟨tg, iter, ifs, 0⟩] scope pos) 0 (.ref it) acc { cenv with scope := relabel scope X.env }) (RR acc cenv.locals) s₄) E s₃) E s := by
  refine wpAny_newObj_type (wpAny_newFunctionEnv S.cell (by intro y hy; simp at hy) (fun h₁ hns₁ hsb₁ => ?_) S.kind)
  dsimp only at hns₁ hsb₁ ⊢
  generalize hH2 : s.heap.push { cls := .type "list", dict := none, data := .seq ([] : List Value).toArray } = HH at hns₁ hsb₁ ⊢
  generalize hCn : HH.objs.size = C at hns₁ hsb₁ ⊢
  generalize hDn : s.heap.objs.size = D
  have hC : C = D + 1 := by rw [← hCn, ← hH2, Heap.size_push, hDn]
  have hDC : D ≠ C := by rw [hC]; exact Nat.ne_of_lt (Nat.lt_succ_self _)
  have below : ∀ b, b < s.heap.objs.size → b ≠ C ∧ b ≠ D := fun b hb => by rw [hDn] at hb; exact ⟨by rw [hC]; exact Nat.ne_of_lt (Nat.lt_succ_of_lt hb), Nat.ne_of_lt hb⟩
  have old : ∀ b o, s.heap.get? b = some o → h₁.get? b = some o := fun b o e => hsb₁.extBut b o (below b (Heap.lt_size e)).1 (Heap.get?_push_of_some _ (hH2 ▸ Heap.get?_push_of_some _ e))
  have hacc : h₁.get? D = some { cls := .type "list", data := .seq ([] : List Value).toArray 0 } := hsb₁.extBut _ _ hDC (Heap.get?_push_of_some _ (by rw [← hH2, ← hDn]; exact Heap.get?_push_size _ rfl))
  have hCs : s.heap.objs.size ≤ C := by rw [hDn, hC]; exact Nat.le_succ _
  have hDs : s.heap.objs.size ≤ D := Nat.le_of_eq hDn
  have hDf : D ∉ fp := fun hm => by
    obtain ⟨o, e, _⟩ := T.obj _ _ st D hm
    exact (below D (Heap.lt_size e)).2 rfl
  have hD0 : H D = none := I.hok.fresh hDs
  obtain ⟨gG, gI, gE⟩ := hb C s H fp (X.pn ++ pins)
  have I0 : ∀ tk, Inv (X.comp scope own cap C s H fp (X.pn ++ pins)) [] (capS σ own ix) H { s with heap := h₁, toks := tk } := fun tk => I.comp S hf (fun b hb => (T.obj _ _ st b hb).imp fun o e => e.1) hCs old hns₁
  have cvX : ∀ x c, (X.comp scope own cap C s H fp (X.pn ++ pins)).env.cells.lookup x = some c → X.env.cells.lookup x = some c := fun x c e => clos_val (S.has I.ok) (fun q => by simp at q) e
  have cellLt : ∀ x c, X.env.cells.lookup x = some c → c < s.heap.objs.size := fun x c e => by obtain ⟨v, q⟩ := I.cell x c e; exact q.lt
  have frsLt : ∀ b ∈ frs X.stack, b < s.heap.objs.size := fun b hb => by
    rcases List.mem_cons.mp (I.stkSub b hb) with z | z
    · rw [z]; exact I.lt
    · obtain ⟨_, o, ho, _⟩ := I.funs.mem z
      exact Heap.lt_size ho
  have fpB : ∀ (H' : Hp) (ps : List (Addr × Obj)), (∀ p ∈ ps, p.1 = D) → (∀ b ∈ fp, H' b = none) → ∀ b ∈ fp, FpOk (X.comp scope own cap C s H fp (X.pn ++ pins)) ps H' b := fun H' ps hps hn b hb => by
    obtain ⟨o, e, _⟩ := T.obj _ _ st b hb
    obtain ⟨f0, f1, f2, f3, f4, f5⟩ := hf b hb
    refine ⟨hn b hb, (below b (Heap.lt_size e)).1, fun z => ?_, .inl hb, fun x c q => f4 x c (cvX x c q), fun p hp => ?_⟩
    · rcases List.mem_cons.mp (I.stkSub b z) with y | y
      · exact f1 y
      · exact f2 y
    · rcases List.mem_append.mp hp with z | z
      · exact f5 p z
      · intro y
        exact hDf (by rw [← hps p z, y]; exact hb)
  have pinD : ∀ {H' : Hp} {σ' : St} {s' : Shared} {o : Obj}, Inv (X.comp scope own cap C s H fp (X.pn ++ pins)) [] σ' H' s' → s'.heap.get? D = some o → (∀ v, o.data ≠ .cell v) → H' D = none → Inv (X.comp scope own cap C s H fp (X.pn ++ pins)) [(D, o)] σ' H' s' := fun {H' σ' s' o} I' e hd hn =>
    I'.pins_of fun p hp => by
      have e1 : p = (D, o) := by simpa using hp
      subst e1
      exact ⟨e, hn, hDC, fun z => Nat.lt_irrefl _ (Nat.lt_of_lt_of_le (frsLt D z) hDs), hd⟩
  have loop : ∀ s₃ : Shared, s₃ = { s with heap := h₁, toks := s.toks + ([] : List (Str × Value)).length } →
      codeAny (model X.prog X.w) X.A (.compLoop (.ListComp elt [⟨tg, iter, ifs, 0⟩] scope pos) 0 (.ref it) (.ref D) (compEnvC scope (clos X.env scope.names []) C X.env)) (RR (.ref D) C) s₃ := by
    rintro s₃ rfl
    obtain ⟨m0, w0⟩ := h0
    refine compLoop_go (fun n s' => ∃ i ys σ' H', Inv (X.comp scope own cap C s H fp (X.pn ++ pins)) [] σ' H' s' ∧ tn i s'.heap ∧ (∀ b ∈ fp, H' b = none) ∧ H' D = none ∧
      (∃ (its : List Value) (k : Nat), Vals ys its ∧ s'.heap.get? D = some { cls := .type "list", data := .seq its.toArray k }) ∧ ys.length ≤ sizeLine ∧ W i n ys σ' H') ?_ m0
      ⟨0, [], _, H, I0 _, T.keep _ _ _ st fun b _ o e => old b o e, fun b hb => (hf b hb).1, hD0, ⟨[], 0, .nil, hacc⟩, Nat.zero_le _, w0⟩
    rintro n s' ⟨i, ys, σ', H', I', st', fr', hD', ⟨its, k, hv, hDo⟩, hyl, w'⟩
    have ID := pinD I' hDo (fun v q => nomatch q) hD'
    rcases turn i n ys σ' H' w' with ⟨stop, hz, q⟩ | ⟨go, step⟩
    · refine thn (T.done (X.comp scope own cap C s H fp (X.pn ++ pins)) rfl rfl rfl hc i [(D, _)] s' σ' H' _ ID (fpB H' _ (fun p hp => by rw [List.mem_singleton.mp hp]) fr') st' stop) fun r s'' ⟨hr, I2⟩ => ?_
      subst hr
      show RR (.ref D) C (.ok .next) s''
      have hDo2 : s''.heap.get? D = some { cls := .type "list", data := .seq its.toArray k } := (I2.pin (D, _) (List.mem_append_right _ (List.mem_singleton.mpr rfl))).1
      obtain ⟨m2, hn2, _⟩ := I2.loc
      obtain ⟨oC, es, ep, hoC, _⟩ := id hn2
      have hok2 : HOk X.prog X.w (upd H' D (.lst ys)) s''.heap := I2.hok.track hD' ⟨hyl, its, k, hv, hDo2⟩
      have un : Un (frs X.stack) fp H (upd H' D (.lst ys)) s.heap s''.heap := by
        have u0 : Un (frs X.stack) fp H H' s.heap s''.heap := I2.base
        refine ⟨u0.keep, u0.slot, fun b o e hn hx => ?_, u0.there, fun b xs e => ?_, fun b o u e => ?_, fun b ps e => ?_⟩
        · rw [upd_ne (below b (Heap.lt_size e)).2]; exact u0.free b o e hn hx
        · rw [upd_ne (ne_of_none (u0.tups b xs e) hD')]; exact u0.tups b xs e
        · rw [upd_ne (ne_of_none (u0.frzs b o u e) hD')]; exact u0.frzs b o u e
        · obtain ⟨more, e'⟩ := u0.tbls b ps e
          exact ⟨more, by rw [upd_ne (ne_of_none e' hD')]; exact e'⟩
      have IX : Inv X pins σ (upd H' D (.lst ys)) s'' := I.call' (ch := fp) I2.os un hok2 I2.bare fun b hb => ⟨(hf b hb).2.2.2.1, (hf b hb).2.1, (hf b hb).2.2.2.2.1, (hf b hb).2.2.2.2.2⟩
      refine hRR D C oC m2 _ s'' hoC hn2 ?_ ?_ (fun x c e z => ?_) (fun p hp z => ?_) (fun z => ?_) ?_ IX (q D hD')
      · exact fun z => Nat.lt_irrefl _ (Nat.lt_of_lt_of_le I.lt (by rw [← z]; exact hCs))
      · exact Nat.le_trans I.sz hCs
      · exact Nat.lt_irrefl _ (Nat.lt_of_lt_of_le (cellLt x c e) (by rw [z]; exact hCs))
      · exact Nat.lt_irrefl _ (Nat.lt_of_lt_of_le (Heap.lt_size (I.pin p hp).1) (by rw [z]; exact hCs))
      · obtain ⟨_, o, ho, _⟩ := I.funs.mem z
        exact Nat.lt_irrefl _ (Nat.lt_of_lt_of_le (Heap.lt_size ho) hCs)
      · rw [upd_ne hDC.symm]; exact I2.free
    · refine thn (T.item (X.comp scope own cap C s H fp (X.pn ++ pins)) rfl rfl rfl hc i [(D, _)] s' σ' H' _ ID (fpB H' _ (fun p hp => by rw [List.mem_singleton.mp hp]) fr') st' go) fun r s4 ⟨u, hr, h4⟩ => ?_
      subst hr
      refine thn h4 fun _ s5 ⟨x, H5, I5, r5, y5, st5, fr5⟩ => ?_
      have hDp5 := I5.pin (D, _) (List.mem_append_right _ (List.mem_singleton.mpr rfl))
      have I5' := I5.pinned (fpB H5 _ (fun p hp => by rw [List.mem_singleton.mp hp]) fr5) (T.obj _ _ st5)
      refine thn (gG _ s5 σ' H5 x u _ I5' r5 (step x H5 y5)) fun _ s6 ⟨σ6, H6, I6, q6⟩ => ?_
      refine thn (gI _ s6 σ6 H6 _ I6 q6) fun ok s7 ⟨H7, I7, q7⟩ => ?_
      have fpK : ∀ {σ8 : St} {H8 : Hp} {s8 : Shared}, Inv (X.comp scope own cap C s H fp (X.pn ++ pins)) ([(D, ({ cls := .type "list", data := .seq its.toArray k } : Obj))] ++ pinsAt fp s5.heap) σ8 H8 s8 → tn (i + 1) s8.heap ∧ (∀ b ∈ fp, H8 b = none) := fun {σ8 H8 s8} I8 => by
        refine ⟨T.keep _ _ _ st5 fun b hb o e => (I8.pin (b, o) (List.mem_append_right _ (List.mem_append_right _ (mem_pinsAt hb e)))).1, fun b hb => ?_⟩
        obtain ⟨o, e, d⟩ := T.obj _ _ st5 b hb
        exact (I8.pin (b, o) (List.mem_append_right _ (List.mem_append_right _ (mem_pinsAt hb e)))).2.1
      have dK : ∀ {σ8 : St} {H8 : Hp} {s8 : Shared}, Inv (X.comp scope own cap C s H fp (X.pn ++ pins)) ([(D, ({ cls := .type "list", data := .seq its.toArray k } : Obj))] ++ pinsAt fp s5.heap) σ8 H8 s8 → s8.heap.get? D = some { cls := .type "list", data := .seq its.toArray k } ∧ H8 D = none := fun {σ8 H8 s8} I8 => by
        have z := I8.pin (D, _) (List.mem_append_right _ (List.mem_append_left _ (List.mem_singleton.mpr rfl)))
        exact ⟨z.1, z.2.1⟩
      cases ok with
      | false =>
        obtain ⟨m', hm, w7⟩ := q7
        obtain ⟨st7, fr7⟩ := fpK I7
        obtain ⟨hD7, hn7⟩ := dK I7
        exact ⟨m', hm, i + 1, ys, σ6, H7, I7.pins_of (fun p hp => nomatch hp), st7, fr7, hn7, ⟨its, k, hv, hD7⟩, hyl, w7⟩
      | true =>
        refine thn (gE _ s7 σ6 H7 _ I7 q7) fun xv s8 ⟨y, H8, I8, r8, hl8, m', hm, w8⟩ => ?_
        obtain ⟨st8, fr8⟩ := fpK I8
        obtain ⟨hD8, hn8⟩ := dK I8
        refine append_at (hsz := by rw [List.size_toArray, ← hv.length]; exact Nat.le_of_lt hl8) hD8 fun h9 hs9 hD9 => ?_
        have I9 : Inv (X.comp scope own cap C s H fp (X.pn ++ pins)) [] σ6 H8 { s8 with heap := h9 } := by
          refine (I8.pins_of (pins' := []) fun p hp => nomatch hp).turned (t' := s8.toks) (it := D) (fun b o hb e => hs9.extBut b o hb e) hn8 hDC (.inr hDs) (fun x c e z => ?_) (fun p hp z => ?_)
          · exact Nat.lt_irrefl _ (Nat.lt_of_lt_of_le (cellLt x c (cvX x c e)) (by rw [z]; exact hDs))
          · have hp' : p ∈ X.pn ++ pins := by simpa [Cx.comp] using hp
            exact Nat.lt_irrefl _ (Nat.lt_of_lt_of_le (Heap.lt_size (I.pin p hp').1) (by rw [z]; exact hDs))
        refine ⟨m', hm, i + 1, ys ++ [y], σ6, H8, I9, T.keep _ _ _ st8 fun b hb o e => hs9.extBut b o (fun z => hDf (by rw [← z]; exact hb)) e, fr8, hn8, ⟨its ++ [xv], k + 1, hv.append (.cons r8 .nil), ?_⟩, by rw [List.length_append, List.length_singleton]; exact hl8, w8⟩
        rw [hD9, List.push_toArray]
  exact codeAny_compStart_list (loop _ rfl) (T.self _ 0 _ _ _ (T.keep _ _ _ st fun b _ o e => old b o e) (loop _ rfl))
theorem pe_comp {wi : TI} {g : TG} {ti : TT} {te : TE} (hc : X.calm = true) (S : CompScope X.N X.env.scope scope own cap ix) (hi : PI X tg iter wi)
    (hb : ∀ (C : Addr) (s₀ : Shared) (H₀ : Hp) (ex : List Addr) (pn : List (Addr × Obj)), PG (X.comp scope own cap C s₀ H₀ ex pn) tg g ∧ PIfs (X.comp scope own cap C s₀ H₀ ex pn) ifs ti ∧ PE (X.comp scope own cap C s₀ H₀ ex pn) elt te)
    (hs : ∀ x, foldedSetIterable iter X.env x = pure x := by intro _; rfl) : PE X (.ListComp elt [⟨tg, iter, ifs, 0⟩] scope pos) (tComp own ix wi g ti te) := by
  intro pins s σ H Q I h
  rw [eval_ListComp]
  refine wpAny_comprehension_free (use := none) rfl hs (closureFor_clos (S.has I.ok)) S.kind S.names (thn (hi pins s σ H _ I h) fun xv s₁ h₁ => thn h₁ fun itv s₂ h₂ => ?_)
  obtain ⟨it, fp, tn, J, H2, e, I2, T, st2, f2, W, h0, turn⟩ := h₂
  subst e
  refine comp_block (Q := Q) (RR := fun acc C => compPost (model X.prog X.w) X.A X.xe none (EP X pins σ Q) acc C) hc I2 S T st2 f2 hb h0 turn ?_
  intro D C oC m H' s' hoC hn h1 h2 h3 h4 h5 h6 I' q
  refine ⟨m, hn, fun h' hs' => ⟨.ref D, H', I'.turned (t' := s'.toks) (it := C) (fun b o hb e => hs'.extBut b o hb e) h6 (Ne.symm h1.symm) (.inr h2) h3 h4, rfl, q⟩⟩
end
theorem comp_str {z : Str} {x0 : Str} {ix : List Nat} {ti : TT} {te : TE} {Q : VK} {σ : St} {H : Hp} (Pv : Nat → List V → Hp → Prop) (h0 : Pv 0 [] H)
    (hs : ∀ i c ys H (R : List V → Hp → Prop), z.cps[i]? = some c → Pv i ys H → (∀ ys' H', Pv (i + 1) ys' H' → R ys' H') → ti (some (.str ⟨#[c]⟩) :: ix.map fun j => (σ[j]?).join) H fun b H3 => if b = true then te (some (.str ⟨#[c]⟩) :: ix.map fun j => (σ[j]?).join) H3 fun y H4 => ys.length < sizeLine ∧ R (ys ++ [y]) H4 else R ys H3)
    (hd : ∀ ys H, Pv z.cps.size ys H → ys.length ≤ sizeLine ∧ ∀ D, H D = none → Q (.ref D) (upd H D (.lst ys))) :
    ∃ W : Nat → Nat → List V → St → Hp → Prop, (∃ m, W 0 m [] (capS σ [x0] ix) H) ∧ ∀ i m ys σ' H, W i m ys σ' H →
      ((Its z).stop i H ∧ ys.length ≤ sizeLine ∧ ∀ D, H D = none → Q (.ref D) (upd H D (.lst ys))) ∨
      ((Its z).go i H ∧ ∀ x H', (Its z).yld i H x H' → gName 0 x σ' H' fun σ2 H2 => ti σ2 H2 fun b H3 => if b = true then te σ2 H3 fun y H4 => ys.length < sizeLine ∧ ∃ m', m' < m ∧ W (i + 1) m' (ys ++ [y]) σ2 H4 else ∃ m', m' < m ∧ W (i + 1) m' ys σ2 H3) := by
  refine ⟨fun i m ys σ' H => m = z.cps.size - i ∧ i ≤ z.cps.size ∧ (∃ o, σ' = o :: ix.map fun j => (σ[j]?).join) ∧ Pv i ys H, ⟨z.cps.size, by simp, Nat.zero_le _, ⟨none, rfl⟩, h0⟩, ?_⟩
  rintro i m ys σ' H ⟨rfl, hi, ⟨o, rfl⟩, p⟩
  by_cases hlt : i < z.cps.size
  · refine .inr ⟨hlt, fun x H' y => ?_⟩
    obtain ⟨e, c, hc, rfl⟩ := y
    subst e
    exact hs i c ys _ (fun ys' H4 => ∃ m', m' < z.cps.size - i ∧ m' = z.cps.size - (i + 1) ∧ i + 1 ≤ z.cps.size ∧ (∃ o', some (V.str ⟨#[c]⟩) :: (ix.map fun j => (σ[j]?).join) = o' :: ix.map fun j => (σ[j]?).join) ∧ Pv (i + 1) ys' H4) hc p
      fun ys' H4 q => ⟨z.cps.size - (i + 1), by omega, rfl, hlt, ⟨_, rfl⟩, q⟩
  · have e : i = z.cps.size := by omega
    subst e
    exact .inl ⟨rfl, hd ys H p⟩
theorem comp_range {lo : Int} {n : Nat} {x0 : Str} {ix : List Nat} {ti : TT} {te : TE} {Q : VK} {σ : St} {H : Hp} (Pv : Nat → List V → Hp → Prop) (h0 : Pv 0 [] H)
    (hs : ∀ i ys H (R : List V → Hp → Prop), i < n → Pv i ys H → (∀ ys' H', Pv (i + 1) ys' H' → R ys' H') → ti (some (.int (lo + i)) :: ix.map fun j => (σ[j]?).join) H fun b H3 => if b = true then te (some (.int (lo + i)) :: ix.map fun j => (σ[j]?).join) H3 fun y H4 => ys.length < sizeLine ∧ R (ys ++ [y]) H4 else R ys H3)
    (hd : ∀ ys H, Pv n ys H → ys.length ≤ sizeLine ∧ ∀ D, H D = none → Q (.ref D) (upd H D (.lst ys))) :
    ∃ W : Nat → Nat → List V → St → Hp → Prop, (∃ m, W 0 m [] (capS σ [x0] ix) H) ∧ ∀ i m ys σ' H, W i m ys σ' H →
      ((Itr lo n).stop i H ∧ ys.length ≤ sizeLine ∧ ∀ D, H D = none → Q (.ref D) (upd H D (.lst ys))) ∨
      ((Itr lo n).go i H ∧ ∀ x H', (Itr lo n).yld i H x H' → gName 0 x σ' H' fun σ2 H2 => ti σ2 H2 fun b H3 => if b = true then te σ2 H3 fun y H4 => ys.length < sizeLine ∧ ∃ m', m' < m ∧ W (i + 1) m' (ys ++ [y]) σ2 H4 else ∃ m', m' < m ∧ W (i + 1) m' ys σ2 H3) := by
  refine ⟨fun i m ys σ' H => m = n - i ∧ i ≤ n ∧ (∃ o, σ' = o :: ix.map fun j => (σ[j]?).join) ∧ Pv i ys H, ⟨n, by simp, Nat.zero_le _, ⟨none, rfl⟩, h0⟩, ?_⟩
  rintro i m ys σ' H ⟨rfl, hi, ⟨o, rfl⟩, p⟩
  by_cases hlt : i < n
  · refine .inr ⟨hlt, fun x H' y => ?_⟩
    obtain ⟨e, y⟩ := y
    subst e y
    exact hs i ys _ (fun ys' H4 => ∃ m', m' < n - i ∧ m' = n - (i + 1) ∧ i + 1 ≤ n ∧ (∃ o', some (V.int (lo + i)) :: (ix.map fun j => (σ[j]?).join) = o' :: ix.map fun j => (σ[j]?).join) ∧ Pv (i + 1) ys' H4) hlt p
      fun ys' H4 q => ⟨n - (i + 1), by omega, rfl, hlt, ⟨_, rfl⟩, q⟩
  · have e : i = n := by omega
    subst e
    exact .inl ⟨Nat.le_refl _, hd ys H p⟩
theorem tcomp_str {z : Str} {x0 : Str} {ix : List Nat} {wi : TI} {ti : TT} {te : TE} {Q : VK} {σ : St} {H H1 : Hp} (hi : ∀ R : It → Hp → Prop, R (Its z) H1 → wi σ H R) (Pv : Nat → List V → Hp → Prop) (h0 : Pv 0 [] H1)
    (hs : ∀ i c ys H (R : List V → Hp → Prop), z.cps[i]? = some c → Pv i ys H → (∀ ys' H', Pv (i + 1) ys' H' → R ys' H') → ti (some (.str ⟨#[c]⟩) :: ix.map fun j => (σ[j]?).join) H fun b H3 => if b = true then te (some (.str ⟨#[c]⟩) :: ix.map fun j => (σ[j]?).join) H3 fun y H4 => ys.length < sizeLine ∧ R (ys ++ [y]) H4 else R ys H3)
    (hd : ∀ ys H, Pv z.cps.size ys H → ys.length ≤ sizeLine ∧ ∀ D, H D = none → Q (.ref D) (upd H D (.lst ys))) : tComp [x0] ix wi (gName 0) ti te σ H Q := hi _ (comp_str Pv h0 hs hd)
theorem tcomp_range {lo : Int} {n : Nat} {x0 : Str} {ix : List Nat} {wi : TI} {ti : TT} {te : TE} {Q : VK} {σ : St} {H H1 : Hp} (hi : ∀ R : It → Hp → Prop, R (Itr lo n) H1 → wi σ H R) (Pv : Nat → List V → Hp → Prop) (h0 : Pv 0 [] H1)
    (hs : ∀ i ys H (R : List V → Hp → Prop), i < n → Pv i ys H → (∀ ys' H', Pv (i + 1) ys' H' → R ys' H') → ti (some (.int (lo + i)) :: ix.map fun j => (σ[j]?).join) H fun b H3 => if b = true then te (some (.int (lo + i)) :: ix.map fun j => (σ[j]?).join) H3 fun y H4 => ys.length < sizeLine ∧ R (ys ++ [y]) H4 else R ys H3)
    (hd : ∀ ys H, Pv n ys H → ys.length ≤ sizeLine ∧ ∀ D, H D = none → Q (.ref D) (upd H D (.lst ys))) : tComp [x0] ix wi (gName 0) ti te σ H Q := hi _ (comp_range Pv h0 hs hd)
end L2
namespace L2
open PySem PySem.Spec PyProof.Rows
section
variable {X : Cx}
theorem call_isiT : CallR X (.builtin "isinstance") (fun xs H Q => ∃ x n t b, xs = [x, .ty n] ∧ TyOf X.K H x t ∧ PySem.W.kitOne X.K t (.type n) = some b ∧ Q (.bl b) H) := by
  intro pins s σ H xs us Q I r h
  obtain ⟨x, n, t, b, rfl, ty, e, q⟩ := h
  obtain ⟨u, w', rfl, rx, rc⟩ := vals2 r
  cases (show w' = Value.type n from rc)
  exact isinst_ok I rx ty e fun tk => ⟨.bl b, H, I.tok tk, rfl, q⟩
theorem pe_ty {x : Str} {n : String} {pos : Pos} (hg : Gl X x) (hm : X.mg x = none) (hv : bootBuiltins x = some (.type n)) (hn : x ≠ "__name__" := by decide) (hd : (x == ("__debug__" : Str)) = false := by decide) : PE X (.Name x pos) (tC (.ty n)) :=
  pe_bltn (v := .ty n) hg hm hv rfl hn hd
theorem truth_bools {prog : Program} {w : World} {A : Around} {bs : List Bool} {its : List Value} (r : Vals (bs.map V.bl) its) : TruthOf prog w A (fun i v => its.toArray[i]? = some v) (fun i => bs.getD i false) := by
  intro i v s Q E hv q
  have hv' : its[i]? = some v := by simpa using hv
  have hl := r.length
  rw [List.length_map] at hl
  have hi : i < its.length := (List.getElem?_eq_some_iff.mp hv').1
  have hb : (bs.map V.bl)[i]? = some (.bl (bs.getD i false)) := by
    rw [List.getElem?_map, List.getD_eq_getElem?_getD, List.getElem?_eq_getElem (show i < bs.length by omega)]
    rfl
  obtain ⟨u, hu, ru⟩ := Vals.get r hb
  rw [hv'] at hu
  cases hu
  cases (show v = Value.bool _ from ru)
  exact wpAny_truthy_bool q
theorem range_all (bs : List Bool) : (List.range bs.length).all (fun i => bs.getD i false) = bs.all id := by
  rw [Bool.eq_iff_iff, List.all_eq_true, List.all_eq_true]
  constructor
  · intro h b hb
    obtain ⟨i, hi, e⟩ := List.mem_iff_getElem.mp hb
    have := h i (List.mem_range.mpr hi)
    rw [List.getD_eq_getElem?_getD, List.getElem?_eq_getElem hi, e] at this
    exact this
  · intro h i hi
    have hi' := List.mem_range.mp hi
    rw [List.getD_eq_getElem?_getD, List.getElem?_eq_getElem hi']
    exact h _ (List.getElem_mem hi')
theorem call_all (hc : X.calm = true) : CallR X (.builtin "all") (fun xs H Q => ∃ (p : Addr) (bs : List Bool), xs = [.ref p] ∧ SqL X.K H p (bs.map V.bl) ∧ Q (.bl (bs.all id)) H) := by
  intro pins s σ H xs us Q I r h
  obtain ⟨p, bs, rfl, hq, q⟩ := h
  obtain ⟨u, rfl, rx⟩ := vals1 r
  cases (show u = Value.ref p from rx)
  obtain ⟨its, rv, pl, hz⟩ := I.list hq
  have hlt : p < s.heap.objs.size := by obtain ⟨_, e, _⟩ := pl.isList; exact Heap.lt_size e
  have hl := rv.length
  rw [List.length_map] at hl
  refine call_all_walk (wpAny_pyIter_list pl.isList ⟨s.heap.objs.size, _, _, _, _, _, _, rfl, Walks.list (A := X.A.in1) (show X.A.in1.handled = none from I.ok.hd hc) s.heap.objs.size p (Nat.ne_of_lt hlt) its.toArray, ⟨⟨_, Heap.get?_push_size _ rfl, rfl, rfl⟩, pl.isList.push _⟩, truth_bools rv, fun h' tk hk => ?_⟩)
  rw [List.size_toArray, ← hl, range_all]
  exact ⟨.bl _, H, I.kept fun b o e => hk b o (by simpa using Nat.ne_of_lt (Heap.lt_size e)) (Heap.get?_push_of_some _ e), rfl, q⟩
def rSlS : V → Option Int → Option Int → Hp → VK → Prop := fun x lo hi H Q => ∃ z, x = .str z ∧ z.length ≤ sizeLine ∧ Q (.str (Txt.slice z lo hi)) H
theorem sl_str : SlR X rSlS := by
  intro pins s σ H x v vl vu lo hi sl Q I rx hs pl pu h
  obtain ⟨z, rfl, hz, q⟩ := h
  obtain ⟨t, rfl⟩ := rx
  refine ⟨"str", _, F.slot_str_getitem.lookup, typeIs_str _ _ _, ?_⟩
  have fin : (Txt.slice z lo hi).length ≤ sizeLine ∧ ∀ t' k, EP X pins σ Q (.str (Txt.slice z lo hi) t') { s with toks := k } := ⟨Nat.le_trans (Txt.slice_le z _ _) hz, fun t' k => ⟨.str _, H, I.tok k, ⟨t', rfl⟩, q⟩⟩
  obtain ⟨o, ho, hc, hd⟩ := hs
  cases pl with
  | none =>
    cases pu with
    | none => exact wpAny_getItem_str_slice (l := none) (u := none) (st := none) ⟨o, ho, hc, hd⟩ rfl (post_val_or_str fin)
    | int j uj => exact wpAny_getItem_str_slice (l := none) (u := some (j, uj)) (st := none) ⟨o, ho, hc, hd⟩ rfl (post_val_or_str fin)
  | int i ui =>
    cases pu with
    | none => exact wpAny_getItem_str_slice (l := some (i, ui)) (u := none) (st := none) ⟨o, ho, hc, hd⟩ rfl (post_val_or_str fin)
    | int j uj => exact wpAny_getItem_str_slice (l := some (i, ui)) (u := some (j, uj)) (st := none) ⟨o, ho, hc, hd⟩ rfl (post_val_or_str fin)
end
structure Def (K : PySem.W.Frag) (mg : Str → Option Value) (x : Str) (st : Stmt) (ps : List Str) (f : Addr) (fd : FuncData) : Prop where
  F : Fun K x x st f fd
  mg : mg x = some (.ref f)
  b : Binds K fd ps []
theorem atI_int {α : Type} {xs : List α} {i : Int} (h0 : 0 ≤ i) (h1 : i < xs.length) : ∃ v, v ∈ xs ∧ xs[i.toNat]? = some v ∧ atI xs i = some v := by
  obtain ⟨n, rfl⟩ := Int.eq_ofNat_of_zero_le h0
  have hn : n < xs.length := by omega
  exact ⟨xs[n], List.getElem_mem hn, by simp [hn], atI_nat (List.getElem?_eq_getElem hn)⟩
theorem atI_mod {α : Type} {xs : List α} {i m : Int} (h0 : 0 < m) (h1 : m ≤ xs.length) : ∃ v, v ∈ xs ∧ xs[(i % m).toNat]? = some v ∧ atI xs (i % m) = some v :=
  atI_int (Int.emod_nonneg _ (by omega)) (by have := Int.emod_lt_of_pos i h0; omega)
end L2
namespace L2
open PySem PySem.Spec PyProof.Rows
mutual
inductive DatV (K : PySem.W.Frag) (H : Hp) : V → PyData → Prop
  | non : DatV K H .non .none
  | bl (b : Bool) : DatV K H (.bl b) (.bool b)
  | int (i : Int) : DatV K H (.int i) (.int i)
  | str (x : Str) : DatV K H (.str x) (.str x)
  | lst {a : Addr} {xs : List V} {ds : List PyData} : SqL K H a xs → DatVs K H xs ds → DatV K H (.ref a) (.list ds)
  | tup {a : Addr} {xs : List V} {ds : List PyData} : SqT K H a xs → DatVs K H xs ds → DatV K H (.ref a) (.tuple ds)
inductive DatVs (K : PySem.W.Frag) (H : Hp) : List V → List PyData → Prop
  | nil : DatVs K H [] []
  | cons {x : V} {d : PyData} {xs : List V} {ds : List PyData} : DatV K H x d → DatVs K H xs ds → DatVs K H (x :: xs) (d :: ds)
end
theorem DatV.reads {X : Cx} {pins : List (Addr × Obj)} {σ : St} {H : Hp} {s : Shared} (I : Inv X pins σ H s) {v : V} {d : PyData} (h : DatV X.K H v d) : ∀ u, RelV v u → ∃ as, Reads s.heap u d as :=
  DatV.rec (motive_1 := fun v d _ => ∀ u, RelV v u → ∃ as, Reads s.heap u d as) (motive_2 := fun xs ds _ => ∀ us, Vals xs us → ∃ as, ReadsAll s.heap us ds as)
    (fun u r => by cases (show u = Value.none from r); exact ⟨_, .none⟩)
    (fun b u r => by cases (show u = Value.bool b from r); exact ⟨_, .bool b⟩)
    (fun i u r => by obtain ⟨t, rfl⟩ := (show ∃ t, u = Value.int i t from r); exact ⟨_, .int i t⟩)
    (fun x u r => by obtain ⟨t, rfl⟩ := (show ∃ t, u = Value.str x t from r); exact ⟨_, .str x t⟩)
    (fun {a xs ds} hq _ ih u r => by
      cases (show u = Value.ref a from r)
      obtain ⟨its, rv, pl, _⟩ := I.list hq
      obtain ⟨o, ho, hc, n, hd⟩ := pl.isList
      obtain ⟨as, ra⟩ := ih its rv
      exact ⟨_, .list ho hc hd (by simpa using ra)⟩)
    (fun {a xs ds} hq _ ih u r => by
      cases (show u = Value.ref a from r)
      obtain ⟨its, rv, pl, _⟩ := I.tuple hq
      obtain ⟨o, ho, hc, n, hd⟩ := pl
      obtain ⟨as, ra⟩ := ih its rv
      exact ⟨_, .tuple ho hc hd (by simpa using ra)⟩)
    (fun us r => by cases r; exact ⟨_, .nil⟩)
    (fun {x d xs ds} _ _ ih1 ih2 us r => by
      cases r with
      | cons r1 r2 =>
        obtain ⟨as, ra⟩ := ih1 _ r1
        obtain ⟨bs, rb⟩ := ih2 _ r2
        exact ⟨_, .cons ra rb⟩) h
theorem SqL.same {K : PySem.W.Frag} {H H' : Hp} {a : Addr} {xs : List V} (e : Same H H') (h : SqL K H a xs) : SqL K H' a xs := e.seq h
theorem SqT.same {K : PySem.W.Frag} {H H' : Hp} {a : Addr} {xs : List V} (e : Same H H') (h : SqT K H a xs) : SqT K H' a xs := by
  rcases h with (h | ⟨o, h⟩) | h
  · exact .inl (.inl (e _ _ h))
  · exact .inl (.inr ⟨o, e _ _ h⟩)
  · exact .inr h
theorem DatV.same {K : PySem.W.Frag} {H H' : Hp} (e : Same H H') {v : V} {d : PyData} (h : DatV K H v d) : DatV K H' v d :=
  DatV.rec (motive_1 := fun v d _ => DatV K H' v d) (motive_2 := fun xs ds _ => DatVs K H' xs ds) .non .bl .int .str (fun q _ ih => .lst (q.same e) ih) (fun q _ ih => .tup (q.same e) ih) .nil (fun _ _ a b => .cons a b) h
theorem DatVs.same {K : PySem.W.Frag} {H H' : Hp} (e : Same H H') {v : List V} {d : List PyData} (h : DatVs K H v d) : DatVs K H' v d :=
  DatVs.rec (motive_1 := fun v d _ => DatV K H' v d) (motive_2 := fun xs ds _ => DatVs K H' xs ds) .non .bl .int .str (fun q _ ih => .lst (q.same e) ih) (fun q _ ih => .tup (q.same e) ih) .nil (fun _ _ a b => .cons a b) h
section
variable {X : Cx}
def rEqD (K : PySem.W.Frag) (neg : Bool) : R2 := fun x y H Q => ∃ d e, DatV K H x d ∧ DatV K H y e ∧ SeqAt.shaped d = true ∧ SeqAt.shaped e = true ∧ Q (.bl (if neg then !PyData.eqv d e else PyData.eqv d e)) H
theorem op_neD (hu : X.A.units + 64 < cLine) : OpR X (compareOp .NotEq) (rEqD X.K true) := by
  intro pins s σ H x y v u Q I rx ry h
  obtain ⟨d, e, hd, he, s1, s2, q⟩ := h
  obtain ⟨as, ra⟩ := hd.reads I v rx
  obtain ⟨bs, rb⟩ := he.reads I u ry
  exact ne_dataH ra rb s1 s2 hu ⟨.bl _, H, I, rfl, q⟩
end
end L2
namespace L2
open PySem PySem.Spec PyProof.Rows
section
variable {P : Program} {w : World} {H H' : Hp} {h h' : Heap} {a : Addr} {o : HO}
theorem ObjOk.there (x : ObjOk P w H h a o) : ∃ ob, h.get? a = some ob := by
  cases o with
  | lst xs => obtain ⟨_, _, _, _, e⟩ := x; exact ⟨_, e⟩
  | tup xs => obtain ⟨_, _, _, _, e, _⟩ := x; exact ⟨_, e⟩
  | dK kvs => obtain ⟨_, _, _, _, o, _, _, e, _⟩ := x; exact ⟨_, e⟩
  | dT kvs => obtain ⟨_, _, _, _, o, _, _, e, _⟩ := x; exact ⟨_, e⟩
  | set S n => obtain ⟨o, _, _, _, e, _⟩ := x; exact ⟨_, e⟩
  | ins C dx fs => obtain ⟨_, _, _, e, _⟩ := x; exact ⟨_, e⟩
  | own y => obtain ⟨_, e⟩ := x; exact ⟨_, e⟩
  | xd fs => obtain ⟨_, ⟨_, _, _, e, _⟩, _⟩ := x; exact ⟨_, e⟩
  | rng lo hi => obtain ⟨_, _, _, e⟩ := x; exact ⟨_, e⟩
  | frz ob u => obtain ⟨e, _⟩ := x; exact ⟨_, e⟩
  | tbl ps => exact ⟨_, (show h.get? a = some _ from x)⟩
  | met f y => exact ⟨_, (show h.get? a = some _ from x)⟩
  | ext φ => obtain ⟨_, ⟨_, e⟩, _⟩ := x; exact ⟨_, e⟩
end
def excO (a : Addr) (cls : Value) : HO := .ext fun h => ∃ ob vs, h.get? a = some ob ∧ ob.cls = cls ∧ ob.data = .fields vs
theorem excO_ok {P : Program} {w : World} {H : Hp} {h : Heap} {a : Addr} {cls : Value} {ob : Obj} {vs : Array Value} (e : h.get? a = some ob) (hc : ob.cls = cls) (hd : ob.data = .fields vs) : ObjOk P w H h a (excO a cls) :=
  ⟨⟨ob, vs, e, hc, hd⟩, ⟨ob, e⟩, fun h1 h2 ⟨o1, v1, e1, c1, d1⟩ k => ⟨o1, v1, k o1 e1, c1, d1⟩⟩
structure Fly (P : Program) (w : World) (outer : List Env) (H H' : Hp) (s : Shared) (ea : Addr) (cls : Value) (s' : Shared) : Prop where
  os : s'.os = s.os
  bare : AllBare s'.gens
  un : Un (frs outer) [] H H' s.heap s'.heap
  fly : ∃ B a0, Heap.FlyingW B outer ea cls a0 s'.heap ∧ HOk P w H' B ∧ (∀ b o, s.heap.get? b = some o → H b = none → b ∉ frs outer → B.get? b = some o) ∧ (∀ b o, s.heap.get? b = some o → b ∉ frs outer → ∃ o', B.get? b = some o')
def CX1 (P : Program) (w : World) : CXT := fun outer H s E e s' => ∃ ea cls H', e = .ref ea ∧ Fly P w outer H H' s ea cls s' ∧ E cls none H'
section
variable {P : Program} {w : World} {outer : List Env} {H H' : Hp} {s s' : Shared} {ea : Addr} {cls : Value}
theorem Fly.turn {B : Heap} {a0 : Value} {h'' : Heap} (f : Fly P w outer H H' s ea cls s') (hfl : Heap.FlyingW B outer ea cls a0 s'.heap) (hok : HOk P w H' B) (h3 : ∀ b o, s.heap.get? b = some o → H b = none → b ∉ frs outer → B.get? b = some o)
    (h4 : ∀ b o, s.heap.get? b = some o → b ∉ frs outer → ∃ o', B.get? b = some o') (hfl' : Heap.FlyingW B outer ea cls a0 h'') (sm : s'.heap.UpToSlots h'') : Fly P w outer H H' s ea cls { s' with heap := h'' } := by
  have fr : ∀ b o', b ∈ frs outer → s'.heap.get? b = some o' → ∃ sl, h''.get? b = some { o' with slots := sl } := fun b o' hb e => by
    obtain ⟨_, o1, e1, d1⟩ := hfl.2.2.1.mem hb
    rw [e] at e1; cases e1
    exact sm b o' e d1
  refine ⟨f.os, f.bare, ⟨fun b o e n hb _ => hfl'.1 _ _ (h3 b o e n hb), fun b o e n hb hx => ?_, f.un.free, fun b o e hx => ?_, f.un.tups, f.un.frzs, f.un.tbls⟩, B, a0, hfl', hok, h3, h4⟩
  · obtain ⟨sl, e1⟩ := f.un.slot b o e n hb hx
    obtain ⟨sl', e2⟩ := fr b _ hb e1
    exact ⟨sl', e2⟩
  · by_cases hb : b ∈ frs outer
    · obtain ⟨o', e1⟩ := f.un.there b o e hx
      obtain ⟨sl', e2⟩ := fr b _ hb e1
      exact ⟨_, e2⟩
    · obtain ⟨o', e1⟩ := h4 b o e hb
      exact ⟨o', hfl'.1 _ _ e1⟩
theorem Fly.free (f : Fly P w outer H H' s ea cls s') : H' ea = none := by
  obtain ⟨B, a0, hfl, hok, _⟩ := f.fly
  cases q : H' ea with
  | none => rfl
  | some o =>
    obtain ⟨ob, e⟩ := (hok ea o q).there
    rw [hfl.2.1] at e; cases e
theorem Fly.hok (f : Fly P w outer H H' s ea cls s') : HOk P w H' s'.heap := by
  obtain ⟨B, a0, hfl, hok, _⟩ := f.fly
  exact hok.kept fun b u e => hfl.1 b u e
theorem Fly.new (f : Fly P w outer H H' s ea cls s') : s.heap.get? ea = none := by
  obtain ⟨B, a0, hfl, hok, h3, h4⟩ := f.fly
  cases q : s.heap.get? ea with
  | none => rfl
  | some o =>
    by_cases hb : ea ∈ frs outer
    · obtain ⟨_, o1, e1, d1⟩ := hfl.2.2.1.mem hb
      obtain ⟨_, _, _, oe, vs, T, oT, ts, he, _, hd, _⟩ := hfl
      rw [e1] at he; cases he
      exact absurd hd (d1 vs)
    · obtain ⟨o', e⟩ := h4 ea o q hb
      rw [hfl.2.1] at e; cases e
theorem Fly.at (f : Fly P w outer H H' s ea cls s') : ∃ oe vs, s'.heap.get? ea = some oe ∧ oe.cls = cls ∧ oe.data = .fields vs := by
  obtain ⟨B, a0, hfl, _⟩ := f.fly
  obtain ⟨oe, vs, he, hc, hd, _⟩ := hfl.first
  exact ⟨oe, vs, he, hc, hd⟩
end
structure Own (X : Cx) : Prop where
  stack : X.stack = X.env :: X.outer
  frame : X.env.frame = some X.env.locals
  ex : X.ex = []
section
variable {X : Cx} {pins : List (Addr × Obj)} {σ : St} {H H' : Hp} {s s' : Shared} {ea : Addr} {cls : Value}
theorem Own.frs (O : Own X) : frs X.stack = X.env.locals :: X.fs := by
  rw [O.stack]
  show (X.env :: X.outer).filterMap _ = _
  rw [List.filterMap_cons, O.frame]
  rfl
theorem Inv.old (I : Inv X pins σ H s) {b : Addr} {o : Obj} (e : X.s₀.heap.get? b = some o) : b ≠ X.env.locals := Nat.ne_of_lt (Nat.lt_of_lt_of_le (Heap.lt_size e) I.ok.above)
theorem Inv.oldStk (O : Own X) (I : Inv X pins σ H s) {b : Addr} {o : Obj} (e : X.s₀.heap.get? b = some o) (hb : b ∉ X.fs) : b ∉ L2.frs X.stack := by
  rw [O.frs]
  intro z
  rcases List.mem_cons.mp z with q | q
  · exact I.old e q
  · exact hb q
theorem Fly.on (O : Own X) (I : Inv X pins σ H s) (f : Fly X.prog X.w X.stack H H' s ea cls s') {h'' : Heap} (B : Heap) (a0 : Value) (hfl : Heap.FlyingW B X.stack ea cls a0 s'.heap) (hok : HOk X.prog X.w H' B)
    (h3 : ∀ b o, s.heap.get? b = some o → H b = none → b ∉ frs X.stack → B.get? b = some o) (h4 : ∀ b o, s.heap.get? b = some o → b ∉ frs X.stack → ∃ o', B.get? b = some o') (hfl' : Heap.FlyingW B X.outer ea cls a0 h'') (sm : s'.heap.UpToSlots h'') :
    Fly X.prog X.w X.outer X.H₀ H' X.s₀ ea cls { s' with heap := h'' } := by
  have nex : ∀ b : Addr, b ∉ X.ex := fun b z => by rw [O.ex] at z; exact nomatch z
  have fsS : ∀ b, b ∈ X.fs → b ∈ frs X.stack := fun b hb => by rw [O.frs]; exact List.mem_cons_of_mem _ hb
  have fr : ∀ b o', b ∈ X.fs → s'.heap.get? b = some o' → ∃ sl, h''.get? b = some { o' with slots := sl } := fun b o' hb e => by
    obtain ⟨_, o1, e1, d1⟩ := hfl.2.2.1.mem (fsS b hb)
    rw [e] at e1; cases e1
    exact sm b o' e d1
  have k3 : ∀ b o, X.s₀.heap.get? b = some o → X.H₀ b = none → b ∉ X.fs → B.get? b = some o := fun b o e n hb => h3 b o (I.base.keep b o e n hb (nex b)) (I.base.free b o e n (nex b)) (I.oldStk O e hb)
  have k4 : ∀ b o, X.s₀.heap.get? b = some o → b ∉ X.fs → ∃ o', B.get? b = some o' := fun b o e hb => by
    obtain ⟨o1, e1⟩ := I.base.there b o e (nex b)
    exact h4 b o1 e1 (I.oldStk O e hb)
  refine ⟨f.os.trans I.os, f.bare, ⟨fun b o e n hb _ => hfl'.1 _ _ (k3 b o e n hb), fun b o e n hb _ => ?_, fun b o e n _ => ?_, fun b o e _ => ?_, fun b xs q => f.un.tups b xs (I.base.tups b xs q), fun b o u q => f.un.frzs b o u (I.base.frzs b o u q), fun b ps q => ?_⟩, B, a0, hfl', hok, k3, k4⟩
  · obtain ⟨sl, e1⟩ := I.base.slot b o e n hb (nex b)
    obtain ⟨sl1, e2⟩ := f.un.slot b _ e1 (I.base.free b o e n (nex b)) (fsS b hb) (by simp)
    obtain ⟨sl2, e3⟩ := fr b _ hb e2
    exact ⟨sl2, e3⟩
  · obtain ⟨o1, e1⟩ := I.base.there b o e (nex b)
    exact f.un.free b o1 e1 (I.base.free b o e n (nex b)) (by simp)
  · by_cases hb : b ∈ X.fs
    · obtain ⟨o1, e1⟩ := I.base.there b o e (nex b)
      obtain ⟨o2, e2⟩ := f.un.there b o1 e1 (by simp)
      obtain ⟨sl, e3⟩ := fr b _ hb e2
      exact ⟨_, e3⟩
    · obtain ⟨o', e1⟩ := k4 b o e hb
      exact ⟨o', hfl'.1 _ _ e1⟩
  · obtain ⟨m1, e1⟩ := I.base.tbls b ps q
    obtain ⟨m2, e2⟩ := f.un.tbls b _ e1
    exact ⟨m1 ++ m2, by rw [e2, Array.append_assoc]⟩
theorem Inv.hid (I : Inv X pins σ H s) : HOk X.prog X.w H (PySem.W.hideAll s.heap (frs X.stack)) := fun a o e => by
  have out : ∀ b u, H b = some u → b ∉ frs X.stack := fun b u q z => by rw [I.stkFree b z] at q; cases q
  refine (I.hok a o e).stay (fun b u hb q => PySem.W.hideAll_get _ q ?_) (fun _ q => q) fun _ _ q => q
  rcases hb with rfl | hb
  · exact out _ _ e
  · exact out _ _ hb
theorem Inv.thrown (O : Own X) (I : Inv X pins σ H s) {vs : List Value} {h1 h'' : Heap} {a0 : Value} (mk : Heap.MadeExcOf s.heap h1 ea cls vs) (hfl' : Heap.FlyingW (PySem.W.hideAll s.heap (frs X.stack)) X.outer ea cls a0 h'') (sm : h1.UpToSlots h'') :
    Fly X.prog X.w X.outer X.H₀ H X.s₀ ea cls { s with heap := h'' } := by
  have nex : ∀ b : Addr, b ∉ X.ex := fun b z => by rw [O.ex] at z; exact nomatch z
  have fr : ∀ b o1 sl, b ∈ X.fs → X.s₀.heap.get? b = some o1 → s.heap.get? b = some { o1 with slots := sl } → ∃ sl, h''.get? b = some { o1 with slots := sl } := fun b o1 sl hb e0 e => by
    obtain ⟨_, o2, e2, d2⟩ := I.ok.funs.mem hb
    rw [e0] at e2; cases e2
    obtain ⟨sl', q⟩ := sm b _ (mk.keeps _ _ e) d2
    exact ⟨sl', q⟩
  have k3 : ∀ b o, X.s₀.heap.get? b = some o → X.H₀ b = none → b ∉ X.fs → (PySem.W.hideAll s.heap (frs X.stack)).get? b = some o := fun b o e n hb => PySem.W.hideAll_get _ (I.base.keep b o e n hb (nex b)) (I.oldStk O e hb)
  have k4 : ∀ b o, X.s₀.heap.get? b = some o → b ∉ X.fs → ∃ o', (PySem.W.hideAll s.heap (frs X.stack)).get? b = some o' := fun b o e hb => by
    obtain ⟨o1, e1⟩ := I.base.there b o e (nex b)
    exact ⟨o1, PySem.W.hideAll_get _ e1 (I.oldStk O e hb)⟩
  refine ⟨I.os, I.bare, ⟨fun b o e n hb _ => hfl'.1 _ _ (k3 b o e n hb), fun b o e n hb _ => ?_, fun b o e n _ => I.base.free b o e n (nex b), fun b o e _ => ?_, I.base.tups, I.base.frzs, I.base.tbls⟩, _, a0, hfl', I.hid, k3, k4⟩
  · obtain ⟨sl, e1⟩ := I.base.slot b o e n hb (nex b)
    exact fr b o sl hb e e1
  · by_cases hb : b ∈ X.fs
    · obtain ⟨sl, e1⟩ := I.base.slot b o e (I.ok.frf b hb) hb (nex b)
      obtain ⟨sl', q⟩ := fr b o sl hb e e1
      exact ⟨_, q⟩
    · obtain ⟨o', e1⟩ := k4 b o e hb
      exact ⟨o', hfl'.1 _ _ e1⟩
end
def Raises (X : Cx) (E : XK) : Prop := ∀ (pins : List (Addr × Obj)) (σ : St) (H : Hp) (s : Shared) (ea : Addr) (cls : Value) (vs : List Value) (h' : Heap), Inv X pins σ H s → Heap.MadeExcOf s.heap h' ea cls vs → E cls none H → X.xe (.ref ea) { s with heap := h' }
section
variable {P : Program} {w : World} {K : PySem.W.Frag} {mg : Str → Option Value} {base : Heap} {N : List Str} {qual : Str} {scope : Scope} {f : Addr} {cd : Value} {A : Around} {outer : List Env} {s : Shared} {H : Hp} {E : XK}
theorem own_def {CX : CXT} : Own (cxOf CX P w K mg base N qual scope f cd A outer s H E) := ⟨rfl, rfl, rfl⟩
theorem pass1 : Passes (CX1 P w) (cxOf (CX1 P w) P w K mg base N qual scope f cd A outer s H E) E := by
  intro pins σ H1 s1 e s' I hx
  obtain ⟨ea, cls, H', rfl, fl, hE⟩ := hx
  obtain ⟨B, a0, hfl, hok, h3, h4⟩ := id fl.fly
  show wpAny _ _ (leaving _ _) _ _ _
  exact wpAny_leaves_onW (L := (cxOf (CX1 P w) P w K mg base N qual scope f cd A outer s H E).env.locals) I.ok.frames rfl hfl fun h'' hfl' sm => ⟨ea, cls, H', rfl, fl.on own_def I B a0 hfl hok h3 h4 hfl' sm, hE⟩
theorem raises1 : Raises (cxOf (CX1 P w) P w K mg base N qual scope f cd A outer s H E) E := by
  intro pins σ H1 s1 ea cls vs h' I mk hE
  show wpAny _ _ (leaving _ _) _ _ _
  have hin : ∀ env ∈ (cxOf (CX1 P w) P w K mg base N qual scope f cd A outer s H E).stack, ∀ b, env.frame = some b → b ∈ frs (cxOf (CX1 P w) P w K mg base N qual scope f cd A outer s H E).stack := fun env he b hb => List.mem_filterMap.mpr ⟨env, he, hb⟩
  exact wpAny_leaves_madeW (s := { s1 with heap := h' }) (L := (cxOf (CX1 P w) P w K mg base N qual scope f cd A outer s H E).env.locals) (base := PySem.W.hideAll s1.heap (frs (cxOf (CX1 P w) P w K mg base N qual scope f cd A outer s H E).stack)) I.ok.frames rfl
    (fun b o q => PySem.W.of_hideAll _ q) (PySem.W.funFrames_hide I.stack hin) mk fun h'' t x1 x2 x3 x4 => ⟨ea, cls, H1, rfl, I.thrown own_def mk x1 x4, hE⟩
end
theorem passE {P : Program} {w : World} {X : Cx} : Passes (CX1 P w) X E0 := fun _ _ _ _ _ _ _ ⟨_, _, _, _, _, h⟩ => h.elim
structure ExcCls (K : PySem.W.Frag) (mg : Str → Option Value) (x : Str) (C : Addr) : Prop where
  mg : mg x = some (.ref C)
  ns : PySem.W.nsIn K mainGlobals x = some (some (.ref C))
  exc : PySem.W.excIn K C [.type "ValueError", .type "Exception", .type "BaseException", .type "object"] "ValueError.__new__" = true
theorem exc_obj {K : PySem.W.Frag} {h : Heap} {C : Addr} {bmB : List Value} {newId : String} (X : K.In h) (q : PySem.W.excIn K C bmB newId = true) :
    ∃ bm N nm qn bs hdct sn sub ab col dd k0 k1 k2 k3 k5 mN, h.get? C = some (excClassObj nm qn C N bs bm hdct sn sub ab col dd k0 k1 k2 k3 k5 newId) ∧ h.Ns N mN ∧ mN "__init__" = none ∧ OwnTail h bmB bm := by
  unfold PySem.W.excIn at q
  split at q
  · rename_i dd cd sl ho
    split at q
    · rename_i C' bm k0 k1 k2 k3 n k5 hm hs
      simp only [Bool.and_eq_true, beq_iff_eq, Bool.not_eq_true'] at q
      obtain ⟨⟨⟨⟨⟨rfl, rfl⟩, hdel⟩, ht⟩, hok⟩, hni⟩ := q
      obtain ⟨nm, bs, mro, ns, qn, hd, sn, sub, ab, col, del⟩ := cd
      dsimp only at hm hdel hok hni
      subst hm hdel
      have hsl : sl = #[k0, k1, k2, k3, some (.builtin n), k5] := by
        obtain ⟨l⟩ := sl
        simp only at hs
        rw [hs]
      subst hsl
      exact ⟨bm, ns, nm, qn, bs, hd, sn, sub, ab, col, dd, k0, k1, k2, k3, k5, _, X _ _ ho, .of_isNs (PySem.W.isNs_of_in X hok), PySem.W.nsMap_none_of_in X hok hni, PySem.W.tail_of_in X ht⟩
    · cases q
  · cases q
section
variable {X : Cx} {x : Str} {C : Addr} {np cpos pos : Pos} {e : Expr} {es : List Expr} {t : TA} {E : XK}
def tRaise (C : Addr) (E : XK) (t : TA) : TS := fun _ σ H => t σ H fun vs H1 => vs.length ≤ sizeLine ∧ E (.ref C) none H1
theorem ps_raise (c : ExcCls X.K X.mg x C) (hc : X.calm = true) (hr : Raises X E) (hg : Gl X x) (ha : PA X (e :: es) t) (hd : (x == ("__debug__" : Str)) = false := by decide)
    (he : starEach (e :: es) X.env = (false, eval e X.env) :: starEach es X.env := by rfl) (hpl : (backTo cpos (starEach es X.env)).any (·.1) = false := by rfl) : PS X (.Raise (some (.Call (.Name x np) (e :: es) [] cpos)) none pos) (tRaise C E t) := by
  intro pins s σ H D I h
  obtain ⟨tl, N, nm, q, bs, hdct, sn, sub, ab, col, dd, k0, k1, k2, k3, k5, mN, hC, hN, hni, T⟩ := exc_obj I.ok.mod.kin c.exc
  refine wpAny_Raise_call_subT (C := C) (nm := nm) (q := q) (N := N) (bs := bs) (bm := tl) (hdct := hdct) (sn := sn) (sub := sub) (ab := ab) (col := col) (dd := dd) (k0 := k0) (k1 := k1) (k2 := k2) (k3 := k3) (k5 := k5)
    PySem.F.excBase_ValueError (mN := mN) (T.hasType PySem.F.excBase_ValueError.hasBase) (I.ok.hd hc) (by rw [he]; show (false || (backTo cpos (starEach es X.env)).any (·.1)) = false; rw [hpl]; rfl) hni (ld_glob I hg c.mg ⟨rfl, ?_⟩ hd)
  have h2 := ha cpos pins s σ H _ I h
  rw [he] at h2 ⊢
  refine Calls.evalArgs_plain (wpAny_mono h2 (fun us s2 ⟨vs, H2, I2, r, hz, hE⟩ => ?_) fun _ _ y => y)
  exact ⟨rfl, by rw [← r.length]; exact hz, I2.bk _ _ hC, hN.keeps I2.bk, T.keeps I2.bk, fun h' ea mk => hr pins σ H2 s2 ea (.ref C) us h' I2 mk hE⟩
end
theorem Fun.okX {P : Program} {w : World} {K : PySem.W.Frag} {mg : Str → Option Value} {base : Heap} {x qual : Str} {st : Stmt} {f : Addr} {fd : FuncData} {N ps : List Str} {k : Nat} {sp : Sp} (F : Fun K x qual st f fd) (S : FnScope N ps (defScope st)) (len : ∀ vs H Q E, sp vs H Q E → vs.length = ps.length)
    (hbody : ∀ (cdv : Value) (A : Around) (outer : List Env) (s : Shared) (H : Hp) (vs : List V) (Q : VK) (E : XK), Room k (A.deeper (envOfC qual (defScope st) s.heap.objs.size f cdv)) → sp vs H Q E →
      ∃ t, PSs (cxOf (CX1 P w) P w K mg base N qual (defScope st) f cdv A outer s H E) (defBody st) t ∧ t { nx := fun _ H' => Q .non H', rt := Q } (start N vs) H) : FnOk P w K mg base (CX1 P w) (k + 1) f fd ps sp := by
  obtain ⟨oc, od, kV, doc, pm, an, cdv, ct, osl, rfl, lk, hcd⟩ := F.ex
  exact fn_of lk hcd S len fun A outer s H vs Q E hr hsp => hbody cdv A outer s H vs Q E hr hsp
end L2
namespace L2
open PySem PySem.Spec PyProof.Rows
theorem Inv.track {X : Cx} {pins : List (Addr × Obj)} {σ : St} {H : Hp} {s : Shared} {a : Addr} {o : HO} (I : Inv X pins σ H s) (hn : H a = none) (new : ObjOk X.prog X.w (upd H a o) s.heap a o) (h0 : X.s₀.heap.get? a = none) (hL : a ≠ X.env.locals)
    (hC : ∀ x c, X.env.cells.lookup x = some c → c ≠ a) (hp : ∀ p ∈ X.pn ++ pins, p.1 ≠ a) : Inv X pins σ (upd H a o) s := by
  have ne : ∀ b ob, X.s₀.heap.get? b = some ob → b ≠ a := fun b ob e z => by rw [z, h0] at e; cases e
  have tr : ∀ b u, H b = some u → upd H a o b = some u := fun b u e => by rw [upd_ne (ne_of_none e hn)]; exact e
  refine ⟨I.ok, I.os, I.bare, ⟨I.base.keep, I.base.slot, fun b ob e n hx => by rw [upd_ne (ne b ob e)]; exact I.base.free b ob e n hx, I.base.there, fun b xs q => tr _ _ (I.base.tups b xs q), fun b ob u q => tr _ _ (I.base.frzs b ob u q), fun b ps q => ?_⟩,
    I.loc, I.cell, by rw [upd_ne (Ne.symm hL)]; exact I.free, fun x c e => by rw [upd_ne (hC x c e)]; exact I.freeC x c e, fun p q => ?_, I.hok.track hn new, I.len⟩
  · obtain ⟨m, e⟩ := I.base.tbls b ps q
    exact ⟨m, tr _ _ e⟩
  · obtain ⟨q1, q2, q3⟩ := I.pin p q
    exact ⟨q1, by rw [upd_ne (hp p q)]; exact q2, q3⟩
def XP (X : Cx) (pins : List (Addr × Obj)) (σ : St) (E : XK) (ev : Value) (s' : Shared) : Prop := ∃ H s0, Inv X pins σ H s0 ∧ CX1 X.prog X.w X.stack H s0 E ev s'
abbrev TX := St → Hp → VK → XK → Prop
def PEX (X : Cx) (e : Expr) (t : TX) : Prop :=
  ∀ (pins : List (Addr × Obj)) (s : Shared) (σ : St) (H : Hp) (Q : VK) (E : XK), Inv X pins σ H s → t σ H Q E → wpAny (model X.prog X.w) X.A (eval e X.env) (EP X pins σ Q) (XP X pins σ E) s
section
variable {X : Cx} {k : Nat} {f C : Addr} {fd : FuncData} {ps : List Str} {sp : Sp} {dvs : List V} {ds : List Value} {x m : Str} {p pos apos : Pos} {e o : Expr} {es : List Expr} {ta : TE} {t : TA}
def tCallX (sp : Sp) (dvs : List V) (t : TA) : TX := fun σ H Q E => t σ H fun vs H1 => sp (vs ++ dvs) H1 Q E
theorem run_fnX {pins : List (Addr × Obj)} {σ : St} {H : Hp} {s : Shared} {Q : VK} {E : XK} {us : List Value} {vs : List V} (F : FnOk X.prog X.w X.K X.mg X.base (CX1 X.prog X.w) k f fd ps sp) (hr : Room k X.A) (hb : Binds X.K fd ps ds) (hd : Vals dvs ds)
    (I : Inv X pins σ H s) (r : Vals vs us) (h : sp (vs ++ dvs) H Q E) : wpAny (model X.prog X.w) X.A (call (.ref f) us) (EP X pins σ Q) (XP X pins σ E) s := by
  have r2 : Vals (vs ++ dvs) (us ++ ds) := r.append hd
  have hl : (us ++ ds).length = ps.length := by rw [← r2.length]; exact F.len _ _ _ _ h
  refine wpAny_call (codeAny_mono (F.run X.A X.stack s H ⟨us, []⟩ (us ++ ds) (vs ++ dvs) Q E hr I.env0 (hb s us I.kIn hl) r2 h) fun r s' hq => ?_)
  cases r with
  | error e => exact ⟨H, s, I, hq⟩
  | ok fl =>
    cases fl with
    | ret u => exact I.after hq
    | next => exact False.elim hq
    | brk => exact False.elim hq
    | cont => exact False.elim hq
theorem pex_call (F : FnOk X.prog X.w X.K X.mg X.base (CX1 X.prog X.w) k f fd ps sp) (hr : Room k X.A) (hg : Gl X x) (hm : X.mg x = some (.ref f)) (hk : PySem.W.keepIn X.K (.ref f) = true) (hb : Binds X.K fd ps ds) (hd : Vals dvs ds)
    (ha : PA X.nox (e :: es) t) (hdb : (x == ("__debug__" : Str)) = false := by decide) (he : starEach (e :: es) X.env = (false, eval e X.env) :: starEach es X.env := by rfl) (hpl : (backTo pos (starEach es X.env)).any (·.1) = false := by rfl) :
    PEX X (.Call (.Name x p) (e :: es) [] pos) (tCallX sp dvs t) := by
  intro pins s σ H Q E I h
  refine wpAny_Call_Name_kw (ld_glob I hg hm ?_ hdb)
  refine PySem.W.callWith_K (h₀ := X.base) I.ok.mod.kin hk (wpAny_mono (ha pos pins s σ H _ (I.wish _) h) (fun us s1 ⟨vs, H1, I1, r, q⟩ => ⟨I1.kIn, ?_⟩) fun _ _ z => z.elim) he hpl
  exact run_fnX F hr hb hd I1.unwish r q
end
def Cx.suite (X : Cx) (ea : Addr) : Cx := { X with A := X.A.mark (some (.ref ea)), calm := false, xe := fun _ _ => False }
section
variable {X : Cx} {pins : List (Addr × Obj)} {σ : St} {H : Hp} {s : Shared} {ea : Addr}
theorem Inv.suite (I : Inv X pins σ H s) (ea : Addr) : Inv (X.suite ea) pins σ H s :=
  ⟨⟨I.ok.mod, I.ok.kind, I.ok.glob, I.ok.blt, I.ok.above, I.ok.inj, I.ok.has, I.ok.cab, fun q => (nomatch q), I.ok.frames, I.ok.stk, I.ok.exf, I.ok.bs, I.ok.bsz, I.ok.noex, I.ok.exfs, I.ok.funs, I.ok.frf⟩, I.os, I.bare, I.base, I.loc, I.cell, I.free, I.freeC, I.pin, I.hok, I.len⟩
theorem Inv.unsuite (hh : X.calm = true → X.A.handled = none) (I : Inv (X.suite ea) pins σ H s) : Inv X pins σ H s :=
  ⟨⟨I.ok.mod, I.ok.kind, I.ok.glob, I.ok.blt, I.ok.above, I.ok.inj, I.ok.has, I.ok.cab, hh, I.ok.frames, I.ok.stk, I.ok.exf, I.ok.bs, I.ok.bsz, I.ok.noex, I.ok.exfs, I.ok.funs, I.ok.frf⟩, I.os, I.bare, I.base, I.loc, I.cell, I.free, I.freeC, I.pin, I.hok, I.len⟩
theorem Inv.unbind {h' : Heap} {t' : Nat} {i : Nat} {n : Str} {m : Str → Option Value} {v : Option Value} (I : Inv X pins σ H s) (hN : X.N.Nodup) (hi : X.N[i]? = some n) (hm : s.heap.Ns X.env.locals m) (hn : h'.Ns X.env.locals (fun x => if x = n then v else m x)) (hs : Heap.SameBut X.env.locals s.heap h') :
    Inv X pins (σ.set i none) H { s with heap := h', toks := t' } := by
  have inj : ∀ {m1 m2 : Str → Option Value}, s.heap.Ns X.env.locals m1 → s.heap.Ns X.env.locals m2 → m1 = m2 := fun {m1 m2} a b => by
    obtain ⟨o, es, ep, e, d, _, f⟩ := a
    obtain ⟨o', es', ep', e', d', _, f'⟩ := b
    rw [e] at e'; cases e'
    rw [d] at d'; cases d'
    funext x
    rw [← f, ← f']
  obtain ⟨m0, hn0, hl⟩ := I.loc
  have em := inj hn0 hm
  subst em
  have hok : HOk X.prog X.w H h' := fun b ob e => by
    refine (I.hok b ob e).stay (fun c w' hc q => (hs.2 c ?_).trans q) (fun _ q => q) fun _ _ q => q
    rintro rfl
    rcases hc with hc | hc
    · rw [← hc, I.free] at e; cases e
    · rw [I.free] at hc; cases hc
  refine ⟨I.ok, I.os, I.bare, ⟨fun b o e k hb hx => (hs.2 b (I.old e)).trans (I.base.keep b o e k hb hx), fun b o e k hb hx => ?_, I.base.free, fun b o e hx => ?_, I.base.tups, I.base.frzs, I.base.tbls⟩, ⟨_, hn, fun j y v' e1 e2 e3 => ?_⟩, fun y c e => ?_, I.free, I.freeC, fun p hp => ?_, hok, by simpa using I.len⟩
  · obtain ⟨sl, e1⟩ := I.base.slot b o e k hb hx
    exact ⟨sl, (hs.2 b (I.old e)).trans e1⟩
  · obtain ⟨o', e1⟩ := I.base.there b o e hx
    exact ⟨o', (hs.2 b (I.old e)).trans e1⟩
  · by_cases hj : j = i
    · subst hj
      rw [List.getElem?_set] at e2
      simp at e2
    · rw [List.getElem?_set_ne (Ne.symm hj)] at e2
      obtain ⟨u', r', q⟩ := hl j y v' e1 e2 e3
      refine ⟨u', r', ?_⟩
      rcases q with ⟨k, e⟩ | ⟨k, c, e, z⟩
      · refine .inl ⟨k, ?_⟩
        have : y ≠ n := fun e => hj (nodup_ix hN e1 (e ▸ hi))
        simp [this, e]
      · exact .inr ⟨k, c, e, z.sameBut hs (I.cne y c e)⟩
  · obtain ⟨w', z⟩ := I.cell y c e
    exact ⟨w', z.sameBut hs (I.cne y c e)⟩
  · obtain ⟨e, k, ne, nf, d⟩ := I.pin p hp
    exact ⟨(hs.2 p.1 ne).trans e, k, ne, nf, d⟩
end
section
variable {X : Cx} {e : Expr} {c n : Str} {b₀ : Stmt} {suite : List Stmt} {epos np hpos pos : Pos} {te : TX} {ts : TS} {cv : Value} {i : Nat}
def ends0 (D : Ends) (i : Nat) : Ends := { nx := fun σ H => D.nx (σ.set i none) H, rt := D.rt, bk := fun σ H => D.bk (σ.set i none) H, ct := fun σ H => D.ct (σ.set i none) H }
def exTry (K : PySem.W.Frag) (cv : Value) (ts : TS) (i : Nat) (D : Ends) (σ : St) : XK := fun cls _ H1 => PySem.W.exmOne K cls cv = some true ∧ ∀ ea, H1 ea = none → ts (ends0 D i) (σ.set i (some (.ref ea))) (upd H1 ea (excO ea cls))
def tTryE (K : PySem.W.Frag) (cv : Value) (te : TX) (ts : TS) (i : Nat) : TS := fun D σ H => te σ H (fun _ H1 => D.nx σ H1) (exTry K cv ts i D σ)
theorem lands {pins : List (Addr × Obj)} {σ : St} {D : Ends} {ev : Value} {s' : Shared} (O : Own X) (hN : X.N.Nodup) (hi : X.N[i]? = some n) (hloc : X.env.kindOf n = some .local) (hcl : ∀ (A : Around) (E : Value → Shared → Prop) (Q : Value → Shared → Prop) (pins : List (Addr × Obj)) (σ : St) (H : Hp) (s : Shared), Inv X pins σ H s → Q cv s → wpAny (model X.prog X.w) A (eval (.Name c np) X.env) Q E s)
    (hs : ∀ ea, PSs (X.suite ea) (b₀ :: suite) ts) (h : XP X pins σ (exTry X.K cv ts i D σ) ev s') :
    wpAny (model X.prog X.w) X.A (noteFrame ev X.env) (fun _ s₂ => wpAny (model X.prog X.w) X.A (setFlight ev none) (fun _ s₃ => wpAny (model X.prog X.w) X.A (handleBy ev X.env [.ExceptHandler (some (.Name c np)) (some n) (b₀ :: suite) hpos]) (SP X pins D) X.xe s₃) X.xe s₂) X.xe s' := by
  obtain ⟨H, s0, I, ea, cls, H1, rfl, fl, hx, hE⟩ := h
  obtain ⟨B, a0, hfl, hok, h3, h4⟩ := id fl.fly
  have hfl0 := hfl
  rw [O.stack] at hfl0
  have hfr : X.A.frames = some (X.env :: X.outer) := by rw [← O.stack]; exact I.ok.frames
  have mkI : ∀ {s1 : Shared}, Fly X.prog X.w X.stack H H1 s0 ea cls s1 → Inv X pins σ H1 s1 := fun {s1} f1 => I.call' (ch := []) f1.os f1.un f1.hok f1.bare fun b z => nomatch z
  refine wpAny_looks_onW hfr O.frame hfl0 fun h₄ held sm₄ => ?_
  refine wpAny_landsW held fun h₅ hfl5 sm₅ => ?_
  have sm45 := sm₄.trans sm₅
  rw [← O.stack] at hfl5
  have f5 : Fly X.prog X.w X.stack H H1 s0 ea cls { s' with heap := h₅ } := fl.turn hfl hok h3 h4 hfl5 sm45
  have I5 := mkI f5
  obtain ⟨oe, vs, he, hc, hd⟩ := f5.at
  refine wpAny_handleBy_cons (codeAny_handlers_test (hcl _ _ _ pins σ H1 _ I5 ?_)) (by intro q; cases q)
  have LT : PySem.W.Looks (model X.prog X.w) h₅ (typeOf (.ref ea)) cls := hc ▸ (PySem.W.Looks.ld he).andThen .now
  refine (PySem.W.exm_one (M := model X.prog X.w) I5.kIn LT hx).here ?_
  refine codeAny_handlers_suite_as ?_
  refine lands_againW (s := { s' with heap := h₅ }) hfl5 fun h₆ hfl6 sm₆ => ?_
  have f6 : Fly X.prog X.w X.stack H H1 s0 ea cls { s' with heap := h₆ } := f5.turn (s' := { s' with heap := h₅ }) hfl5 hok h3 h4 hfl6 sm₆
  have I6 := mkI f6
  obtain ⟨oe6, vs6, he6, hc6, hd6⟩ := f6.at
  have new0 : X.s₀.heap.get? ea = none := by
    cases q : X.s₀.heap.get? ea with
    | none => rfl
    | some o =>
      obtain ⟨o', z⟩ := I.base.there ea o q (by rw [O.ex]; simp)
      rw [fl.new] at z; cases z
  have I7 : Inv X pins σ (upd H1 ea (excO ea cls)) { s' with heap := h₆ } := by
    refine I6.track f6.free (excO_ok he6 hc6 hd6) new0 (fun z => ?_) (fun y cc q z => ?_) fun p hp z => ?_
    · obtain ⟨m, ⟨o, es, ep, ho, hdd, _⟩, _⟩ := I6.loc
      rw [← z, he6] at ho; cases ho
      rw [hd6] at hdd; cases hdd
    · obtain ⟨v, o, ho, hdd⟩ := I6.cell y cc q
      rw [z, he6] at ho; cases ho
      rw [hd6] at hdd; cases hdd
    · obtain ⟨q1, _⟩ := I.pin p hp
      rw [z, fl.new] at q1; cases q1
  refine store_ok (X := X.suite ea) (I7.suite ea) hN hi (.inl hloc) (v := .ref ea) rfl (fun s8 I8 => ?_) (.inr hloc)
  refine wpAny_mono (hs ea pins s8 _ _ (ends0 D i) I8 (hE ea f6.free)) (fun fw s9 q9 => ?_) fun _ _ z => z.elim
  have hp : (X.env.scope.kind == .class || (X.env.scope.kind == .module && X.env.locals != X.env.globals)) = false := by rw [I.ok.kind]; rfl
  have go : ∀ {σ9 : St} {H9 : Hp} {Q : Unit → Shared → Prop}, Inv (X.suite ea) pins σ9 H9 s9 → (∀ s10, Inv X pins (σ9.set i none) H9 s10 → Q () s10) → wpAny (model X.prog X.w) X.A (do bindName X.env n .none; unbindBehindTheSuite X.env n hpos) Q X.xe s9 := fun {σ9 H9 Q} I9 hQ => by
    have I9' : Inv X pins σ9 H9 s9 := I9.unsuite I.ok.hd
    obtain ⟨m, hm, _⟩ := id I9'.loc
    exact wpAny_nameGoes_keeps hloc hm hp fun h' v hn hsb => hQ _ (I9'.unbind hN hi hm hn hsb)
  cases fw with
  | next => obtain ⟨σ9, H9, I9, q⟩ := q9; exact go I9 fun s10 I10 => ⟨_, _, I10, q⟩
  | brk => obtain ⟨σ9, H9, I9, q⟩ := q9; exact go I9 fun s10 I10 => ⟨_, _, I10, q⟩
  | cont => obtain ⟨σ9, H9, I9, q⟩ := q9; exact go I9 fun s10 I10 => ⟨_, _, I10, q⟩
  | ret u => obtain ⟨v, σ9, H9, I9, r, q⟩ := q9; exact go I9 fun s10 I10 => ⟨_, _, _, I10, r, q⟩
theorem ps_tryE (O : Own X) (hN : X.N.Nodup) (hi : X.N[i]? = some n) (hloc : X.env.kindOf n = some .local) (hg : Gl X c) (hcv : X.mg c = some cv) (he : PEX X e te) (hs : ∀ ea, PSs (X.suite ea) (b₀ :: suite) ts) (hd : (c == ("__debug__" : Str)) = false := by decide)
    (hsw : swapsWith e none epos.line X.env = pure false := by rfl) : PS X (.Try [.Expr e epos] [.ExceptHandler (some (.Name c np)) (some n) (b₀ :: suite) hpos] [] [] pos) (tTryE X.K cv te ts i) := by
  intro pins s σ H D I h
  refine wpAny_Try_except ?_
  have hE := he pins s σ H _ _ I h
  refine wpAny_execs_cons (wpAny_Expr_any (wpAny_mono hE (fun v s1 ⟨x, H1, I1, r1, q1⟩ => ?_) fun ev s1 hx => ?_) I.quiet hsw)
  · exact wpAny_execs_nil (wpAny_execs_nil ⟨σ, H1, I1, q1⟩)
  · exact lands O hN hi hloc (fun A E Q pins σ H s J q => Calls.Name_function_global J.ok.kind hg (Calls.loadGlobal_global (by rw [J.ok.glob]; exact J.mod.glob.keeps J.bk) hcv q) hd) hs hx
end
end L2
namespace L2
open PySem PySem.Spec PyProof.Rows
section
variable {prog : Program} {w : World} {A : Around} {E : Value → Shared → Prop} {K : PySem.W.Frag} {h : Heap} {g : Array GenState} {d : Drawn} {t : Nat} {os : OsState} {a D : Addr} {o : Obj} {vs : Array Value}
structure ExcLk (K : PySem.W.Frag) (D : Addr) : Prop where
  ga : PySem.W.findIn K (.ref D) "__getattribute__" = some (some (.builtin "BaseException.__getattribute__"))
  gt : PySem.W.findIn K (.ref D) "__getattr__" = some none
  cl : PySem.W.findIn K (.ref D) "__class__" = some (some (.builtin "object.__class__"))
  mro : PySem.W.mroIn K D (.type "object") = some true
  sub : PySem.W.subIn K (.ref D) (.type "BaseException") = some true
  cls : (PySem.W.clsIn K D).isSome = true
section
open PySem.W Builtin Builtin.ObjectAttr Builtin.Getset_descriptor
theorem exc_class_get {tp : Value} {R : Result → Shared → Prop} (X : K.In h) (hx : h.get? a = some o) (hc : o.cls = .ref D) (hm : mroIn K D (.type "object") = some true)
    (hq : R (.ok (.ret (.ref D))) ⟨h, g, d, t, os⟩) : codeAny (model prog w) A (.call (.builtin "getset_descriptor.__get__") ⟨[.builtin "object.__class__", .ref a, tp], []⟩) R ⟨h, g, d, t, os⟩ := by
  have L0 : Looks (model prog w) h (typeOf (.ref a)) (.ref D) := hc ▸ (Looks.ld hx).andThen .now
  have L1 := looks_mroIn (M := model prog w) X hm
  refine codeAny_call_builtin KF.slot_gs.plain KF.entry_gs (KF.slot_gs.check _ _ _ _ _ _ _ _ KF.type_class (KF.args_gs _ _ _) ?_)
  unfold Builtin.«getset_descriptor.__get__» descrGet
  rw [dga_obj]
  refine wpAny_bind (wpAny_pure ?_)
  unfold descrGetter descrCheckInstance descrNameAndClass isInstance
  simp only [KF.owner_class]
  repeat lk
  refine ⟨Code.quiet_builtin _ (by decide +kernel), codeAny_builtin KF.entry_class ?_⟩
  unfold Builtin.«object.__class__» shownTypeOf
  repeat lk
  exact hq
end
theorem exc_check {M : Model} {nameV : Value} {Q : Unit → Shared → Prop} (Z : ExcLk K D) (X : K.In h) (hx : h.get? a = some o) (hc : o.cls = .ref D) (hq : Q () ⟨h, g, d, t, os⟩) :
    wpAny M A (checkBuiltinCall "BaseException.__getattribute__" ⟨[.ref a, nameV], []⟩) Q E ⟨h, g, d, t, os⟩ := by
  have hk : builtinKind "BaseException.__getattribute__" = some .slot := by decide +kernel
  have hsplit : splitId "BaseException.__getattribute__" = some ("BaseException", "__getattribute__") := by decide +kernel
  have ha := PySem.F.args_bexc_ga (.ref a) nameV
  have LS := PySem.W.looks_subIn (M := M) X Z.sub
  simp only [checkBuiltinCall, hk, hsplit]
  refine wpAny_bind ?_
  unfold isInstance
  repeat (first | (with_reducible refine wpAny_loadPart_at hx ?_; rw [hc]) | with_reducible refine LS.at ?_ | wp_step)
  exact hq
theorem exc_entry {tk : Tok} {Q : Fin → Shared → Prop} (Z : ExcLk K D) (X : K.In h) (hx : h.get? a = some o) (hc : o.cls = .ref D) (hq : Q (.done (.ret (.ref D))) ⟨h, g, d, t, os⟩) :
    wpAny (model prog w) A (Builtin.«object.__getattribute__» ⟨[.ref a, .str "__class__" tk], []⟩) Q E ⟨h, g, d, t, os⟩ := by
  have hT5 : (⟨h, g, d, t, os⟩ : Shared).TypeIs (.builtin "object.__class__") "getset_descriptor" := PySem.F.typeOf_object_class
  have f5 := PySem.F.typeOf_object_class
  have f6 := PySem.F.slot_gs_get.lookup
  have f7 := PySem.F.slot_gs_set.lookup
  have LC := PySem.W.looks_findIn (M := model prog w) X Z.cl
  repeat (any_goals (first | assumption | (with_reducible refine wpAny_loadPart_at hx ?_; rw [hc]) | with_reducible refine LC.at ?_ | wp_step))
  refine exc_class_get X hx hc Z.mro ?_
  repeat (any_goals (first | assumption | wp_step))
theorem exc_by {tk : Tok} {fill : Bool} {Q : Value → Shared → Prop} (Z : ExcLk K D) (X : K.In h) (hx : h.get? a = some o) (hc : o.cls = .ref D) (hq : Q (.ref D) ⟨h, g, d, t, os⟩) :
    wpAny (model prog w) A (getAttrBy (.ref a) (.str "__class__" tk) fill) Q E ⟨h, g, d, t, os⟩ := by
  have FB := PySem.F.attr_ValueError
  have f3 := FB.ga.bind (.ref a)
  have hx2 : (Value.builtin "BaseException.__getattribute__" == Value.builtin "object.__getattribute__") = false := by decide +kernel
  have hx1 : (onTheHeap (Value.ref D) && Value.builtin "BaseException.__getattribute__" == Value.builtin "object.__getattribute__") = false := by rw [hx2]; rfl
  have LG := PySem.W.looks_findIn (M := model prog w) X Z.ga
  have LT := PySem.W.looks_findIn (M := model prog w) X Z.gt
  repeat (any_goals (first | assumption | (with_reducible refine wpAny_loadPart_at hx ?_; rw [hc]) | with_reducible refine LG.at ?_ | with_reducible refine LT.at ?_ | wp_step))
  refine codeAny_call_builtin FB.ga.plain PySem.F.entry_bexc_ga (exc_check Z X hx hc (exc_entry Z X hx hc ?_))
  repeat (any_goals (first | assumption | wp_step))
theorem exc_attr {Q : Option Value → Shared → Prop} (Z : ExcLk K D) (X : K.In h) (hx : h.get? a = some o) (hc : o.cls = .ref D) (hq : Q (some (.ref D)) ⟨h, g, d, t + 1, os⟩) :
    wpAny (model prog w) A (getAttr? (.ref a) "__class__") Q E ⟨h, g, d, t, os⟩ := by
  unfold getAttr? getAttrBy?
  repeat (any_goals (first | assumption | with_reducible apply exc_by Z X hx hc | wp_step))
theorem kitx_exc (Z : ExcLk K D) : PySem.W.KitX K (.ref a) (.ref D) (fun h => ∃ ob, h.get? a = some ob ∧ ob.cls = .ref D) where
  ty := fun M h X ⟨ob, e, c⟩ => c ▸ (PySem.W.Looks.ld e).andThen .now
  it := fun _ _ X _ => by
    obtain ⟨cdD, hcD⟩ := Option.isSome_iff_exists.mp Z.cls
    unfold PySem.W.clsIn at hcD
    split at hcD
    · rename_i c' d' cd' sl' ho
      intro A' Q' E' s' k q
      unfold isType loadHead
      exact wpAny_bind (wpAny_loadPart (k _ _ (X _ _ ho)) (wpAny_pure q))
    · cases hcD
  ne := fun h tp dd its n sl X htp => by
    obtain ⟨cdD, hcD⟩ := Option.isSome_iff_exists.mp Z.cls
    refine Bool.eq_false_iff.mpr fun q => ?_
    have e : D = tp := Value.ref.inj (beq_iff_eq.mp q)
    subst e
    unfold PySem.W.clsIn at hcD
    split at hcD
    · rename_i c' d' cd' sl' ho
      have z := (X _ _ ho).symm.trans htp
      cases z
    · cases hcD
  ca := fun {prog w A E Q s} X p k => by
    obtain ⟨ob, e, c⟩ := p
    obtain ⟨h, g, d, t, os⟩ := s
    exact exc_attr Z X e c k
end
section
variable {X : Cx}
theorem call_isiX : CallR X (.builtin "isinstance") (fun xs H Q => ∃ a D c b, xs = [.ref a, c] ∧ H a = some (excO a (.ref D)) ∧ ExcLk X.K D ∧ (∃ cv, RelV c cv ∧ PySem.W.kitOne X.K (.ref D) cv = some b) ∧ Q (.bl b) H) := by
  intro pins s σ H xs us Q I r h
  obtain ⟨a, D, c, b, rfl, ha, Z, ⟨cv, rc, e⟩, q⟩ := h
  obtain ⟨u, w', rfl, rx, rc'⟩ := vals2 r
  cases (show u = Value.ref a from rx)
  have ew : w' = cv := by
    cases c with
    | ref y => exact (show w' = Value.ref y from rc').trans (show cv = Value.ref y from rc).symm
    | ty n => exact (show w' = Value.type n from rc').trans (show cv = Value.type n from rc).symm
    | non => exact (show w' = Value.none from rc').trans (show cv = Value.none from rc).symm
    | bl y => exact (show w' = Value.bool y from rc').trans (show cv = Value.bool y from rc).symm
    | int i => obtain ⟨t, rfl⟩ := (show ∃ t, cv = Value.int i t from rc); exact absurd e (by simp [PySem.W.kitOne, PySem.W.kitCls])
    | str i => obtain ⟨t, rfl⟩ := (show ∃ t, cv = Value.str i t from rc); exact absurd e (by simp [PySem.W.kitOne, PySem.W.kitCls])
    | byt i => obtain ⟨t, rfl⟩ := (show ∃ t, cv = Value.bytes i t from rc); exact absurd e (by simp [PySem.W.kitOne, PySem.W.kitCls])
    | flt i => obtain ⟨t, rfl⟩ := (show ∃ t, cv = Value.float i t from rc); exact absurd e (by simp [PySem.W.kitOne, PySem.W.kitCls])
  subst ew
  obtain ⟨⟨ob, vs, e1, c1, _⟩, _⟩ := (show ObjOk X.prog X.w H s.heap a (excO a (.ref D)) from I.hok a _ ha)
  exact PySem.W.kia_one (kitx_exc Z) I.kIn ⟨ob, e1, c1⟩ e (fun z => nomatch z) fun tk => ⟨.bl b, H, I.tok tk, rfl, q⟩
end
structure RoomN (k : Nat) (A : Around) : Prop where
  dp : A.depth + 3 * k + 5 < recursionLimit
  un : A.units + 16 * k + 200 < cLine
theorem Room.n {k : Nat} {A : Around} (r : Room k A) : RoomN k A := ⟨r.dp, r.un⟩
theorem RoomN.mono {j k : Nat} {A : Around} (r : RoomN k A) (h : j ≤ k) : RoomN j A := ⟨by have := r.dp; omega, by have := r.un; omega⟩
theorem RoomN.mark {k : Nat} {A : Around} (r : RoomN k A) (hd : Option Value) : RoomN k (A.mark hd) := ⟨r.dp, r.un⟩
theorem RoomN.deeper {k : Nat} {A : Around} (r : RoomN (k + 1) A) (env : Env) : RoomN k (A.deeper env) :=
  ⟨by have := r.dp; show A.depth + 1 + 3 * k + 5 < _; omega, by have := r.un; show A.units + 3 + 16 * k + 200 < _; omega⟩
theorem RoomN.depth {k : Nat} {A : Around} (r : RoomN k A) : A.depth < recursionLimit := by have := r.dp; omega
theorem RoomN.units {k : Nat} {A : Around} (r : RoomN k A) : A.units + 64 < cLine := by have := r.un; omega
structure FnOkN (P : Program) (w : World) (K : PySem.W.Frag) (mg : Str → Option Value) (base : Heap) (k : Nat) (f : Addr) (fd : FuncData) (ps : List Str) (sp : Sp) : Prop where
  len : ∀ vs H Q E, sp vs H Q E → vs.length = ps.length
  run : ∀ (A : Around) (outer : List Env) (s : Shared) (H : Hp) (args : Args) (us : List Value) (vs : List V) (Q : VK) (E : XK), RoomN k A → Env0 P w K mg base A outer s H → BindsTo s fd args (ps.zip us) → Vals vs us → sp vs H Q E →
    codeAny (model P w) A (.call (.ref f) args) (CR CX0 outer P w H s Q E) s
theorem FnOkN.calm {P : Program} {w : World} {K : PySem.W.Frag} {mg : Str → Option Value} {base : Heap} {k : Nat} {f : Addr} {fd : FuncData} {ps : List Str} {sp : Sp} (F : FnOkN P w K mg base k f fd ps sp) : FnOk P w K mg base CX0 k f fd ps sp :=
  ⟨F.len, fun A outer s H args us vs Q E hr => F.run A outer s H args us vs Q E hr.n⟩
def cxOfN (P : Program) (w : World) (K : PySem.W.Frag) (mg : Str → Option Value) (base : Heap) (N : List Str) (qual : Str) (scope : Scope) (f : Addr) (cd : Value) (A : Around) (outer : List Env) (s : Shared) (H : Hp) : Cx :=
  { cxOf CX0 P w K mg base N qual scope f cd A outer s H E0 with calm := false, xe := fun _ _ => False }
section
variable {X : Cx} {k : Nat} {f : Addr} {fd : FuncData} {ps : List Str} {sp : Sp} {dvs : List V} {ds : List Value} {x : Str} {p pos : Pos} {e : Expr} {es : List Expr} {t : TA} {E : XK}
end
structure ClsM (K : PySem.W.Frag) (B : Addr) (m : Str) (f : Addr) : Prop where
  sp : PySem.W.specialIn K (.ref B) "__getattribute__" = some (some (.builtin "type.__getattribute__"))
  rd : PySem.W.readsIn K B (.type "type") = true
  fd : PySem.W.findCls K (.ref B) (.type "type") m = some (.val (.ref f))
  kp : PySem.W.keepIn K (.ref f) = true
section
variable {X : Cx} {CX : CXT} {k : Nat} {f B : Addr} {fd : FuncData} {ps : List Str} {sp : Sp} {dvs : List V} {ds : List Value} {E : XK} {x m : Str} {p pos apos : Pos} {e : Expr} {es : List Expr} {t : TA}
end
section
variable {X : Cx}
def rInsert : V → List V → Hp → VK → Prop := fun x vs H Q => ∃ l xs i y, x = .ref l ∧ vs = [.int i, y] ∧ H l = some (.lst xs) ∧ 0 ≤ i ∧ i ≤ xs.length ∧ xs.length < sizeLine ∧ Q .non (upd H l (.lst (xs.take i.toNat ++ y :: xs.drop i.toNat)))
end
end L2
namespace L2
open PySem PySem.Spec PyProof.Rows
section
variable {X : Cx}
theorem CallR.imp {f : Value} {r r' : List V → Hp → VK → Prop} (h : CallR X f r) (hi : ∀ xs H Q, r' xs H Q → r xs H Q) : CallR X f r' := fun pins s σ H xs us Q I rs q => h pins s σ H xs us Q I rs (hi _ _ _ q)
def rLenL (K : PySem.W.Frag) : List V → Hp → VK → Prop := fun xs H Q => ∃ p ys, xs = [.ref p] ∧ SqL K H p ys ∧ Q (.int ys.length) H
def rLenT (K : PySem.W.Frag) : List V → Hp → VK → Prop := fun xs H Q => ∃ p ys, xs = [.ref p] ∧ SqT K H p ys ∧ Q (.int ys.length) H
def rListL (K : PySem.W.Frag) : List V → Hp → VK → Prop := fun xs H Q => ∃ p ys, xs = [.ref p] ∧ SqL K H p ys ∧ ∀ l, H l = none → Q (.ref l) (upd H l (.lst ys))
def rListT (K : PySem.W.Frag) : List V → Hp → VK → Prop := fun xs H Q => ∃ p ys, xs = [.ref p] ∧ SqT K H p ys ∧ ∀ l, H l = none → Q (.ref l) (upd H l (.lst ys))
def rTupL (K : PySem.W.Frag) : List V → Hp → VK → Prop := fun xs H Q => ∃ p ys, xs = [.ref p] ∧ SqL K H p ys ∧ ∀ l, H l = none → Q (.ref l) (upd H l (.tup ys))
def rTupT (K : PySem.W.Frag) : List V → Hp → VK → Prop := fun xs H Q => ∃ p ys, xs = [.ref p] ∧ SqT K H p ys ∧ Q (.ref p) H
def rIsiT (K : PySem.W.Frag) : List V → Hp → VK → Prop := fun xs H Q => ∃ x n t b, xs = [x, .ty n] ∧ TyOf K H x t ∧ PySem.W.kitOne K t (.type n) = some b ∧ Q (.bl b) H
theorem call_lenL : CallR X (.builtin "len") (rLenL X.K) := call_len_seq.imp fun _ _ _ ⟨p, ys, e, h, q⟩ => ⟨p, ys, e, .inl h, q⟩
theorem call_tupL : CallR X (.type "tuple") (rTupL X.K) := call_tuple_of.imp fun _ _ _ ⟨p, ys, e, h, q⟩ => ⟨p, ys, e, .inl ⟨h, q⟩⟩
end
theorem scal_ii {a b : Int} : (scal (.int a) (.int b) = true) = True := eq_true rfl
theorem scal_ss {a b : Str} : (scal (.str a) (.str b) = true) = True := eq_true rfl
theorem scal_bb {a b : Bool} : (scal (.bl a) (.bl b) = true) = True := eq_true rfl
theorem Same.upd {H H' : Hp} {l : Addr} {o : HO} (s : Same H H') (h : H' l = none) : Same H (upd H' l o) := fun b u e => by
  have e' := s b u e
  rw [upd_ne (ne_of_none e' h)]
  exact e'
theorem Same.put {H : Hp} {l : Addr} {o : HO} (h : H l = none) : Same H (L2.upd H l o) := (Same.refl H).upd h
end L2
namespace SH
open PySem L2
abbrev LET : Str := "abcdefghijklmnopqrstuvwxyz"
def letC (c : Nat) : Bool := !(Builtin.Str.occurrences LET ⟨#[c]⟩ 0 LET.length 1).isEmpty
def markS (x : Str) : Bool := decide (1 ≤ x.length) && decide (x.length ≤ 8) && x.cps.toList.all letC
def markV : V → Bool
  | .str x => markS x
  | _ => false
inductive Thg (H : Hp) : V → Prop where
  | non : Thg H .non
  | bl (b : Bool) : Thg H (.bl b)
  | int (i : Int) : Thg H (.int i)
  | str (x : Str) (h : x.length ≤ 1000) : Thg H (.str x)
  | lst {a : Addr} {xs : List V} (h : H a = some (.lst xs)) : Thg H (.ref a)
  | tup {a : Addr} {xs : List V} (h : H a = some (.tup xs)) : Thg H (.ref a)
theorem Thg.same {H H' : Hp} {v : V} (s : Same H H') (t : Thg H v) : Thg H' v := by
  cases t with
  | non => exact .non
  | bl b => exact .bl b
  | int i => exact .int i
  | str x h => exact .str x h
  | lst h => exact .lst (s _ _ h)
  | tup h => exact .tup (s _ _ h)
def isStr : V → Bool
  | .str _ => true
  | _ => false
def isInt : V → Bool
  | .int _ => true
  | .bl _ => true
  | _ => false
def isBl : V → Bool
  | .bl _ => true
  | _ => false
section
variable {K : PySem.W.Frag}
theorem Thg.ty {H : Hp} {v : V} (t : Thg H v) : ∃ y, TyOf K H v y ∧ PySem.W.kitOne K y (.type "str") = some (isStr v) ∧ PySem.W.kitOne K y (.type "int") = some (isInt v) ∧ PySem.W.kitOne K y (.type "bool") = some (isBl v) := by
  cases t with
  | non => exact ⟨_, .non, by kernel_rfl, by kernel_rfl, by kernel_rfl⟩
  | bl b => exact ⟨_, .bl b, by kernel_rfl, by kernel_rfl, by kernel_rfl⟩
  | int i => exact ⟨_, .int i, by kernel_rfl, by kernel_rfl, by kernel_rfl⟩
  | str x h => exact ⟨_, .str x, by kernel_rfl, by kernel_rfl, by kernel_rfl⟩
  | lst h => exact ⟨_, .lst h, by kernel_rfl, by kernel_rfl, by kernel_rfl⟩
  | tup h => exact ⟨_, .tup h, by kernel_rfl, by kernel_rfl, by kernel_rfl⟩
theorem Thg.isList {H : Hp} {v : V} (t : Thg H v) : ∃ y b, TyOf K H v y ∧ PySem.W.kitOne K y (.type "list") = some b ∧ ((b = true ∧ ∃ a xs, v = .ref a ∧ H a = some (.lst xs)) ∨ (b = false ∧ ∀ a xs, v = .ref a → H a ≠ some (.lst xs))) := by
  cases t with
  | non => exact ⟨_, false, .non, by kernel_rfl, .inr ⟨rfl, fun _ _ z => nomatch z⟩⟩
  | bl b => exact ⟨_, false, .bl b, by kernel_rfl, .inr ⟨rfl, fun _ _ z => nomatch z⟩⟩
  | int i => exact ⟨_, false, .int i, by kernel_rfl, .inr ⟨rfl, fun _ _ z => nomatch z⟩⟩
  | str x h => exact ⟨_, false, .str x, by kernel_rfl, .inr ⟨rfl, fun _ _ z => nomatch z⟩⟩
  | lst h => exact ⟨_, true, .lst h, by kernel_rfl, .inl ⟨rfl, _, _, rfl, h⟩⟩
  | tup h => exact ⟨_, false, .tup h, by kernel_rfl, .inr ⟨rfl, fun _ _ z e => by cases z; rw [h] at e; cases e⟩⟩
end
theorem all_take_succ {p : Nat → Bool} {l : List Nat} {i c : Nat} (h : l[i]? = some c) : (l.take (i + 1)).all p = ((l.take i).all p && p c) := by
  rw [List.take_add_one, h]
  simp
theorem at_str {z : Str} {i m : Int} (h0 : 0 < m) (h1 : m ≤ z.length) : ∃ c, c ∈ z.cps.toList ∧ atI z.cps.toList (i % m) = some c := by
  obtain ⟨v, hm, _, e⟩ := atI_mod (xs := z.cps.toList) (i := i) h0 (by simpa [Str.length] using h1)
  exact ⟨v, hm, e⟩
theorem one_len (c : Nat) : (⟨#[c]⟩ : Str).length = 1 := rfl
def StIs (σ τ : St) : Prop := σ = τ
theorem StIs.rfl {σ : St} : StIs σ σ := Eq.refl σ
theorem StIs.eq {σ τ : St} (h : StIs σ τ) : σ = τ := h
def GoodM (n : Nat) (H : Hp) (v : V) : Prop := ∃ a xs, v = .ref a ∧ H a = some (.lst xs) ∧ xs.length ≤ n ∧ xs.all markV = true
def Thg2 (H : Hp) (v : V) : Prop := Thg H v ∧ ∀ a xs, v = .ref a → H a = some (.lst xs) → ∀ x ∈ xs, Thg H x
theorem Thg.back {H H' : Hp} {v : V} {a : Addr} {xs : List V} (t : Thg H v) (s : Same H H') (e : v = .ref a) (h : H' a = some (.lst xs)) : H a = some (.lst xs) := by
  cases t with
  | non => cases e
  | bl b => cases e
  | int i => cases e
  | str x h => cases e
  | lst h1 => cases e; rw [s _ _ h1] at h; cases h; exact h1
  | tup h1 => cases e; rw [s _ _ h1] at h; cases h
theorem Thg2.same {H H' : Hp} {v : V} (s : Same H H') (t : Thg2 H v) : Thg2 H' v := ⟨t.1.same s, fun a xs e h x hx => (t.2 a xs e (t.1.back s e h) x hx).same s⟩
theorem GoodM.back {n : Nat} {H H' : Hp} {v : V} (t : Thg H v) (s : Same H H') (g : GoodM n H' v) : GoodM n H v := by
  obtain ⟨a, xs, e, h, l, m⟩ := g
  exact ⟨a, xs, e, t.back s e h, l, m⟩
theorem app_list (a y : Str) : (a ++ y).cps.toList = a.cps.toList ++ y.cps.toList := by
  rw [PySem.Str.cps_append, Array.toList_append]
theorem letC_iff {c : Nat} : letC c = true ↔ c ∈ LET.cps.toList := by
  unfold letC
  rw [PySem.StrLaws.found_one, decide_eq_true_eq]
theorem letC_ok {c : Nat} (h : letC c = true) : c < 0x110000 := by
  have h1 : ∀ d ∈ LET.cps.toList, d < 0x110000 := by decide +kernel
  exact h1 c (letC_iff.mp h)
theorem mark_all {z : Str} (h : markS z = true) : 1 ≤ z.length ∧ z.length ≤ 8 ∧ ∀ c ∈ z.cps.toList, letC c = true := by
  unfold markS at h
  simp only [Bool.and_eq_true, decide_eq_true_eq, List.all_eq_true] at h
  exact ⟨h.1.1, h.1.2, h.2⟩
theorem mark_strOk {z : Str} (h : markS z = true) : PyData.strOk z = true := by
  unfold PyData.strOk
  rw [← Array.all_toList, List.all_eq_true]
  intro c hc
  exact decide_eq_true (letC_ok ((mark_all h).2.2 c hc))
theorem mark_of {z : Str} (h1 : 1 ≤ z.length) (h2 : z.length ≤ 8) (h3 : ∀ c ∈ z.cps.toList, letC c = true) : markS z = true := by
  unfold markS
  simp only [Bool.and_eq_true, decide_eq_true_eq, List.all_eq_true]
  exact ⟨⟨h1, h2⟩, h3⟩
end SH
namespace SH
open PySem L2
theorem lookup_no {α : Type} {a b c : Str} {x y : α} (h : (c == a) = false) (h' : (c == b) = false) : List.lookup c [(a, x), (b, y)] = none := by
  rw [List.lookup_cons, h, List.lookup_cons, h']
  rfl
theorem putF2 {a b : Str} {x y : V} (h : ¬ a = b) : putF b y [(a, x)] = [(a, x), (b, y)] := by
  show (if a = b then [(a, y)] else (a, x) :: putF b y []) = _
  rw [if_neg h]
  rfl
abbrev Nd := Str × Int
def NodeAt (H : Hp) (x : V) (n : Nd) : Prop := ∃ t, x = .ref t ∧ H t = some (.tup [.str n.1, .int n.2])
def NodesAt (H : Hp) : List V → List Nd → Prop
  | [], [] => True
  | x :: xs, n :: ns => NodeAt H x n ∧ NodesAt H xs ns
  | [], _ :: _ => False
  | _ :: _, [] => False
theorem NodeAt.same {H H' : Hp} {x : V} {n : Nd} (s : Same H H') (h : NodeAt H x n) : NodeAt H' x n := by
  obtain ⟨t, e, h⟩ := h
  exact ⟨t, e, s _ _ h⟩
theorem NodesAt.same {H H' : Hp} (s : Same H H') : ∀ {xs : List V} {ns : List Nd}, NodesAt H xs ns → NodesAt H' xs ns
  | [], [], h => h
  | _ :: _, _ :: _, h => ⟨h.1.same s, NodesAt.same s h.2⟩
  | [], _ :: _, h => h.elim
  | _ :: _, [], h => h.elim
theorem NodesAt.tups {H H' : Hp} (s : ∀ b ys, H b = some (.tup ys) → H' b = some (.tup ys)) : ∀ {xs : List V} {ns : List Nd}, NodesAt H xs ns → NodesAt H' xs ns
  | [], [], h => h
  | _ :: _, _ :: _, h => by
    obtain ⟨⟨t, e, h1⟩, h2⟩ := h
    exact ⟨⟨t, e, s _ _ h1⟩, NodesAt.tups s h2⟩
  | [], _ :: _, h => h.elim
  | _ :: _, [], h => h.elim
theorem NodesAt.length {H : Hp} : ∀ {xs : List V} {ns : List Nd}, NodesAt H xs ns → xs.length = ns.length
  | [], [], _ => rfl
  | _ :: _, _ :: _, h => by rw [List.length_cons, List.length_cons, NodesAt.length h.2]
  | [], _ :: _, h => h.elim
  | _ :: _, [], h => h.elim
theorem NodesAt.append {H : Hp} : ∀ {xs ys : List V} {ns ms : List Nd}, NodesAt H xs ns → NodesAt H ys ms → NodesAt H (xs ++ ys) (ns ++ ms)
  | [], _, [], _, _, b => b
  | _ :: _, _, _ :: _, _, a, b => ⟨a.1, NodesAt.append a.2 b⟩
  | [], _, _ :: _, _, a, _ => a.elim
  | _ :: _, _, [], _, a, _ => a.elim
theorem NodesAt.split {H : Hp} : ∀ {xs ys : List V} {ns : List Nd}, NodesAt H (xs ++ ys) ns → ∃ n1 n2, ns = n1 ++ n2 ∧ NodesAt H xs n1 ∧ NodesAt H ys n2
  | [], _, ns, h => ⟨[], ns, rfl, trivial, h⟩
  | x :: xs, ys, [], h => h.elim
  | x :: xs, ys, n :: ns, h => by
    obtain ⟨n1, n2, e, a, b⟩ := NodesAt.split (xs := xs) h.2
    exact ⟨n :: n1, n2, by rw [e]; rfl, ⟨h.1, a⟩, b⟩
theorem NodesAt.get {H : Hp} : ∀ {xs : List V} {ns : List Nd} {i : Nat} {x : V}, NodesAt H xs ns → xs[i]? = some x → ∃ n, ns[i]? = some n ∧ NodeAt H x n
  | [], [], _, _, _, e => by simp at e
  | _ :: _, n :: _, 0, _, h, e => by simp at e; subst e; exact ⟨n, rfl, h.1⟩
  | _ :: _, _ :: _, i + 1, x, h, e => by
    obtain ⟨m, a, b⟩ := NodesAt.get (i := i) (x := x) h.2 (by simpa using e)
    exact ⟨m, by simpa using a, b⟩
  | [], _ :: _, _, _, h, _ => h.elim
  | _ :: _, [], _, _, h, _ => h.elim
theorem NodesAt.take {H : Hp} : ∀ {xs : List V} {ns : List Nd} (i : Nat), NodesAt H xs ns → NodesAt H (xs.take i) (ns.take i)
  | [], [], _, _ => by simp [NodesAt]
  | _ :: _, _ :: _, 0, _ => trivial
  | _ :: _, _ :: _, i + 1, h => ⟨h.1, NodesAt.take i h.2⟩
  | [], _ :: _, _, h => h.elim
  | _ :: _, [], _, h => h.elim
theorem NodesAt.drop {H : Hp} : ∀ {xs : List V} {ns : List Nd} (i : Nat), NodesAt H xs ns → NodesAt H (xs.drop i) (ns.drop i)
  | [], [], _, _ => by simp [NodesAt]
  | _ :: _, _ :: _, 0, h => h
  | _ :: _, _ :: _, i + 1, h => NodesAt.drop i h.2
  | [], _ :: _, _, h => h.elim
  | _ :: _, [], _, h => h.elim
def deep1 (n : Nd) : Int := min (n.2 + 1) 12
def depthOk : Int → List Nd → Prop
  | _, [] => True
  | d, n :: r => markS n.1 = true ∧ 0 ≤ n.2 ∧ n.2 ≤ d ∧ depthOk (deep1 n) r
def Thg3 (H : Hp) (v : V) : Prop := Thg H v ∧ ∀ a xs, v = .ref a → H a = some (.tup xs) → ∀ x ∈ xs, Thg H x
def Thg4 (H : Hp) (v : V) : Prop := Thg H v ∧ ∀ a xs, v = .ref a → H a = some (.lst xs) → ∀ x ∈ xs, Thg3 H x
def GoodN (H : Hp) (v : V) : Prop := ∃ a xs ns, v = .ref a ∧ H a = some (.lst xs) ∧ xs.length ≤ 40 ∧ NodesAt H xs ns ∧ depthOk 0 ns
theorem Thg.backT {H H' : Hp} {v : V} {a : Addr} {xs : List V} (t : Thg H v) (s : Same H H') (e : v = .ref a) (h : H' a = some (.tup xs)) : H a = some (.tup xs) := by
  cases t with
  | non => cases e
  | bl b => cases e
  | int i => cases e
  | str x h => cases e
  | lst h1 => cases e; rw [s _ _ h1] at h; cases h
  | tup h1 => cases e; rw [s _ _ h1] at h; cases h; exact h1
theorem Thg3.same {H H' : Hp} {v : V} (s : Same H H') (t : Thg3 H v) : Thg3 H' v := ⟨t.1.same s, fun a xs e h x hx => (t.2 a xs e (t.1.backT s e h) x hx).same s⟩
theorem Thg4.same {H H' : Hp} {v : V} (s : Same H H') (t : Thg4 H v) : Thg4 H' v := ⟨t.1.same s, fun a xs e h x hx => (t.2 a xs e (t.1.back s e h) x hx).same s⟩
theorem NodeAt.back {H H' : Hp} {v : V} {n : Nd} (t : Thg H v) (s : Same H H') (h : NodeAt H' v n) : NodeAt H v n := by
  obtain ⟨a, e, h⟩ := h
  exact ⟨a, e, t.backT s e h⟩
theorem NodesAt.back {H H' : Hp} (s : Same H H') : ∀ {xs : List V} {ns : List Nd}, (∀ x ∈ xs, Thg H x) → NodesAt H' xs ns → NodesAt H xs ns
  | [], [], _, h => h
  | x :: xs, _ :: _, t, h => ⟨h.1.back (t x List.mem_cons_self) s, NodesAt.back s (fun y hy => t y (List.mem_cons_of_mem _ hy)) h.2⟩
  | [], _ :: _, _, h => h.elim
  | _ :: _, [], _, h => h.elim
theorem GoodN.back {H H' : Hp} {v : V} (t : Thg4 H v) (s : Same H H') (g : GoodN H' v) : GoodN H v := by
  obtain ⟨a, xs, ns, e, h, l, m, d⟩ := g
  have h0 := t.1.back s e h
  exact ⟨a, xs, ns, e, h0, l, m.back s fun x hx => (t.2 a xs e h0 x hx).1, d⟩
end SH
namespace L2
open PySem PySem.Spec PyProof.Rows
theorem tseq_open {a b : TS} {D : Ends} {σ : St} {H : Hp} (h : ∀ B : TS, B = b → tSeq a B D σ H) : tSeq a b D σ H := h b rfl
def Itr3 (lo st : Int) (n : Nat) : It := ⟨fun i _ => i < n, fun i H x H' => H' = H ∧ x = .int (lo + i * st), fun i _ => n ≤ i⟩
section
variable {X : Cx} {tg : Expr}
def iRng3 (ta : TA) : TI := fun σ H R => ta σ H fun vs H1 => ∃ j c : Int, vs = [.int 0, .int j, .int c] ∧ (-1000 ≤ j ∧ j ≤ 1000 ∧ 1 ≤ c ∧ c ≤ 1000) ∧ ∀ n : Nat, (∀ i : Nat, i < n → (i : Int) * c < j) → R (Itr3 0 c n) H1
end
end L2
namespace SH
open PySem L2
def RowAt (f : List V → HO) (H : Hp) (x : V) (l : List V) : Prop := ∃ a, x = .ref a ∧ H a = some (f l)
def RowsAt (f : List V → HO) (H : Hp) : List V → List (List V) → Prop
  | [], [] => True
  | x :: xs, n :: ns => RowAt f H x n ∧ RowsAt f H xs ns
  | [], _ :: _ => False
  | _ :: _, [] => False
section
variable {f : List V → HO} {H H' : Hp}
theorem RowAt.same {x : V} {n : List V} (s : Same H H') (h : RowAt f H x n) : RowAt f H' x n := by
  obtain ⟨t, e, h⟩ := h
  exact ⟨t, e, s _ _ h⟩
theorem RowsAt.keep (s : ∀ b ys, H b = some (f ys) → H' b = some (f ys)) : ∀ {xs : List V} {ns : List (List V)}, RowsAt f H xs ns → RowsAt f H' xs ns
  | [], [], h => h
  | _ :: _, _ :: _, h => by
    obtain ⟨⟨t, e, h1⟩, h2⟩ := h
    exact ⟨⟨t, e, s _ _ h1⟩, RowsAt.keep s h2⟩
  | [], _ :: _, h => h.elim
  | _ :: _, [], h => h.elim
theorem RowsAt.same (s : Same H H') {xs : List V} {ns : List (List V)} (h : RowsAt f H xs ns) : RowsAt f H' xs ns := h.keep fun b ys e => s b _ e
theorem RowsAt.length : ∀ {xs : List V} {ns : List (List V)}, RowsAt f H xs ns → xs.length = ns.length
  | [], [], _ => rfl
  | _ :: _, _ :: _, h => by rw [List.length_cons, List.length_cons, RowsAt.length h.2]
  | [], _ :: _, h => h.elim
  | _ :: _, [], h => h.elim
theorem RowsAt.append : ∀ {xs ys : List V} {ns ms : List (List V)}, RowsAt f H xs ns → RowsAt f H ys ms → RowsAt f H (xs ++ ys) (ns ++ ms)
  | [], _, [], _, _, b => b
  | _ :: _, _, _ :: _, _, a, b => ⟨a.1, RowsAt.append a.2 b⟩
  | [], _, _ :: _, _, a, _ => a.elim
  | _ :: _, _, [], _, a, _ => a.elim
theorem RowsAt.get : ∀ {xs : List V} {ns : List (List V)} {i : Nat} {x : V}, RowsAt f H xs ns → xs[i]? = some x → ∃ n, ns[i]? = some n ∧ RowAt f H x n
  | [], [], _, _, _, e => by simp at e
  | _ :: _, n :: _, 0, _, h, e => by simp at e; subst e; exact ⟨n, rfl, h.1⟩
  | _ :: _, _ :: _, i + 1, x, h, e => by
    obtain ⟨m, a, b⟩ := RowsAt.get (i := i) (x := x) h.2 (by simpa using e)
    exact ⟨m, by simpa using a, b⟩
  | [], _ :: _, _, _, h, _ => h.elim
  | _ :: _, [], _, _, h, _ => h.elim
theorem RowsAt.take : ∀ {xs : List V} {ns : List (List V)} (i : Nat), RowsAt f H xs ns → RowsAt f H (xs.take i) (ns.take i)
  | [], [], _, _ => by simp [RowsAt]
  | _ :: _, _ :: _, 0, _ => trivial
  | _ :: _, _ :: _, i + 1, h => ⟨h.1, RowsAt.take i h.2⟩
  | [], _ :: _, _, h => h.elim
  | _ :: _, [], _, h => h.elim
theorem RowsAt.drop : ∀ {xs : List V} {ns : List (List V)} (i : Nat), RowsAt f H xs ns → RowsAt f H (xs.drop i) (ns.drop i)
  | [], [], _, _ => by simp [RowsAt]
  | _ :: _, _ :: _, 0, h => h
  | _ :: _, _ :: _, i + 1, h => RowsAt.drop i h.2
  | [], _ :: _, _, h => h.elim
  | _ :: _, [], _, h => h.elim
theorem RowsAt.mem : ∀ {xs : List V} {ns : List (List V)} {x : V}, RowsAt f H xs ns → x ∈ xs → ∃ n ∈ ns, RowAt f H x n
  | [], _, _, _, h => nomatch h
  | y :: xs, n :: ns, x, h, hx => by
    rcases List.mem_cons.mp hx with e | e
    · rw [e]; exact ⟨n, List.mem_cons_self, h.1⟩
    · obtain ⟨m, hm, r⟩ := RowsAt.mem h.2 e
      exact ⟨m, List.mem_cons_of_mem _ hm, r⟩
  | _ :: _, [], _, h, _ => h.elim
end
def lineOk (w : Nat) (l : List V) : Prop := l.length = w ∧ l.all markV = true
def tabOk (ls : List (List V)) : Prop := ∃ w, w ≤ 12 ∧ ∀ l ∈ ls, lineOk w l
def Thg5 (H : Hp) (v : V) : Prop := Thg H v ∧ ∀ a xs, v = .ref a → H a = some (.lst xs) → ∀ x ∈ xs, Thg2 H x
def GoodT (H : Hp) (v : V) : Prop := ∃ a xs ls, v = .ref a ∧ H a = some (.lst xs) ∧ xs.length ≤ 12 ∧ RowsAt .lst H xs ls ∧ tabOk ls
theorem Thg5.same {H H' : Hp} {v : V} (s : Same H H') (t : Thg5 H v) : Thg5 H' v := ⟨t.1.same s, fun a xs e h x hx => (t.2 a xs e (t.1.back s e h) x hx).same s⟩
theorem RowsAt.back {H H' : Hp} (s : Same H H') : ∀ {xs : List V} {ns : List (List V)}, (∀ x ∈ xs, Thg H x) → RowsAt .lst H' xs ns → RowsAt .lst H xs ns
  | [], [], _, h => h
  | x :: xs, _ :: _, t, h => by
    obtain ⟨⟨a, e, h1⟩, h2⟩ := h
    exact ⟨⟨a, e, (t x List.mem_cons_self).back s e h1⟩, RowsAt.back s (fun y hy => t y (List.mem_cons_of_mem _ hy)) h2⟩
  | [], _ :: _, _, h => h.elim
  | _ :: _, [], _, h => h.elim
theorem GoodT.back {H H' : Hp} {v : V} (t : Thg5 H v) (s : Same H H') (g : GoodT H' v) : GoodT H v := by
  obtain ⟨a, xs, ns, e, h, l, m, d⟩ := g
  have h0 := t.1.back s e h
  exact ⟨a, xs, ns, e, h0, l, m.back s fun x hx => (t.2 a xs e h0 x hx).1, d⟩
def datM : V → PyData
  | .str z => .str z
  | _ => .none
theorem datVs_marks {K : PySem.W.Frag} {H : Hp} : ∀ {l : List V}, l.all markV = true → DatVs K H l (l.map datM)
  | [], _ => .nil
  | x :: r, h => by
    rw [List.all_cons, Bool.and_eq_true] at h
    cases x with
    | str z => exact .cons (.str _) (datVs_marks h.2)
    | _ => cases h.1
theorem canLay_marks : ∀ {l : List V}, l.all markV = true → PyData.canLayAll0 (l.map datM) = true
  | [], _ => rfl
  | x :: r, h => by
    rw [List.all_cons, Bool.and_eq_true] at h
    have ih := canLay_marks h.2
    cases x with
    | str z =>
      have h1 := mark_strOk (show markS z = true from h.1)
      simp only [List.map_cons, datM, PyData.canLayAll0, PyData.canLay0, h1, ih, Bool.and_self]
    | _ => cases h.1
theorem depth_marks : ∀ l : List V, PyData.depthAll (l.map datM) ≤ 0
  | [] => Nat.le_refl _
  | x :: r => by
    have ih := depth_marks r
    cases x <;> simp only [List.map_cons, datM, PyData.depthAll, PyData.depth] <;> omega
def wideT (ls : List (List V)) : Nat := (ls.headD []).length
theorem lookup_no3 {α : Type} {a b d c : Str} {x y z : α} (h : (c == a) = false) (h' : (c == b) = false) (h'' : (c == d) = false) : List.lookup c [(a, x), (b, y), (d, z)] = none := by
  rw [List.lookup_cons, h, List.lookup_cons, h', List.lookup_cons, h'']
  rfl
theorem GoodM.same {n : Nat} {H H' : Hp} {v : V} (s : Same H H') (g : GoodM n H v) : GoodM n H' v := by
  obtain ⟨a, xs, e, h, r⟩ := g
  exact ⟨a, xs, e, s _ _ h, r⟩
def NotIn (l : Addr) (xs : List V) : Prop := ∀ b, V.ref b ∈ xs → b ≠ l
theorem NotIn.nil {l : Addr} : NotIn l [] := fun _ h => nomatch h
theorem NotIn.of {f : List V → HO} {H : Hp} {D : Addr} {xs : List V} {ls : List (List V)} (r : RowsAt f H xs ls) (h : H D = none) : NotIn D xs := fun b hb => by
  obtain ⟨n, _, a, e, ha⟩ := r.mem hb
  cases e
  exact ne_of_none ha h
theorem same_ne {H H' : Hp} {l : Addr} {o : HO} (s : Same H H') (h : H l = none) : Same H (upd H' l o) := fun b u e => by rw [upd_ne (ne_of_none e h)]; exact s b u e
end SH
namespace L2
open PySem PySem.Spec PyProof.Rows
theorem pe_either {X : Cx} {e : Expr} {t1 t2 : TE} (h1 : PE X e t1) (h2 : PE X e t2) : PE X e (fun σ H Q => t1 σ H Q ∨ t2 σ H Q) := fun pins s σ H Q I h => h.elim (h1 pins s σ H Q I) (h2 pins s σ H Q I)
end L2
namespace SH
open PySem L2
def placesOk : Int → Int → List Int → Prop
  | _, _, [] => True
  | lo, m, p :: r => lo ≤ p ∧ p < m ∧ placesOk (p + 1) m r
def GoodP (m : Int) (H : Hp) (v : V) : Prop := ∃ a ps, v = .ref a ∧ H a = some (.lst (ps.map V.int)) ∧ placesOk 0 m ps
theorem GoodP.back {m : Int} {H H' : Hp} {v : V} (t : Thg H v) (s : Same H H') (g : GoodP m H' v) : GoodP m H v := by
  obtain ⟨a, ps, e, h, r⟩ := g
  exact ⟨a, ps, e, t.back s e h, r⟩
theorem cut_from {xs : List V} {n : Nat} {i : Int} (h : i = (n : Int)) : cutV xs (some i) none = xs.drop n := by
  subst h
  unfold cutV
  rw [HT.sIx_none, HT.sIx_nat]
  apply List.ext_getElem?
  intro j
  rw [List.getElem?_take]
  by_cases h1 : n ≤ xs.length
  · rw [Nat.min_eq_left h1]
    by_cases h2 : j < xs.length - n
    · rw [if_pos h2]
    · rw [if_neg h2, List.getElem?_drop]
      exact (List.getElem?_eq_none (by omega)).symm
  · rw [Nat.min_eq_right (by omega), if_neg (by omega), List.getElem?_drop]
    exact (List.getElem?_eq_none (by omega)).symm
end SH
namespace L2
open PySem PySem.Spec PyProof.Rows
section
variable {κ : Type} [DecidableEq κ]
def valV (kvs : List (κ × V)) (k : κ) : Option V := (kvs.find? fun kv => decide (kv.1 = k)).map (·.2)
def putK (kvs : List (κ × V)) (k : κ) (v : V) : List (κ × V) :=
  if (kvs.any fun kv => decide (kv.1 = k)) = true then kvs.map (fun kv => if kv.1 = k then (kv.1, v) else kv) else kvs ++ [(k, v)]
def dropK (kvs : List (κ × V)) (k : κ) : List (κ × V) := kvs.filter fun kv => decide (kv.1 ≠ k)
theorem valV_pos {p : κ × V} {r : List (κ × V)} {k : κ} (e : p.1 = k) : valV (p :: r) k = some p.2 := by simp [valV, List.find?_cons, e]
theorem valV_neg {p : κ × V} {r : List (κ × V)} {k : κ} (e : ¬ p.1 = k) : valV (p :: r) k = valV r k := by simp [valV, List.find?_cons, e]
theorem valV_any (k : κ) : ∀ kvs : List (κ × V), (kvs.any fun kv => decide (kv.1 = k)) = (valV kvs k).isSome
  | [] => rfl
  | p :: r => by
    rw [List.any_cons]
    by_cases e : p.1 = k
    · simp only [valV_pos e, decide_eq_true e, Bool.true_or, Option.isSome_some]
    · rw [valV_neg e, decide_eq_false e, Bool.false_or]; exact valV_any k r
theorem RelO.isSome_eq {o : Option V} {u : Option Value} (r : RelO o u) : o.isSome = u.isSome := by
  cases o with
  | none => cases u with
    | none => rfl
    | some _ => exact (show False from r).elim
  | some _ => cases u with
    | none => exact (show False from r).elim
    | some _ => rfl
theorem RelO.getD {o : Option V} {u : Option Value} {d : V} {d' : Value} (r : RelO o u) (rd : RelV d d') : RelV (o.getD d) (u.getD d') := by
  cases o with
  | none => cases u with
    | none => exact rd
    | some _ => exact (show False from r).elim
  | some _ => cases u with
    | none => exact (show False from r).elim
    | some _ => exact r
theorem KV.val {kvs : List (κ × V)} {vs : List (κ × Value)} (r : KV kvs vs) (k : κ) : RelO (valV kvs k) (valueAt vs k) := by
  unfold KV at r
  induction r with
  | nil => exact True.intro
  | @cons p q ps qs h t ih =>
    obtain ⟨h1, h2⟩ := h
    by_cases e : p.1 = k
    · have e' : q.1 = k := h1.symm.trans e
      have b : valueAt (q :: qs) k = some q.2 := by simp [valueAt, List.find?_cons, e']
      rw [valV_pos e, b]; exact h2
    · have e' : ¬ q.1 = k := fun z => e (h1.trans z)
      have b : valueAt (q :: qs) k = valueAt qs k := by simp [valueAt, List.find?_cons, e']
      rw [valV_neg e, b]; exact ih
theorem KV.any {kvs : List (κ × V)} {vs : List (κ × Value)} (r : KV kvs vs) (k : κ) : (kvs.any fun kv => decide (kv.1 = k)) = vs.any fun kv => decide (kv.1 = k) := by
  unfold KV at r
  induction r with
  | nil => rfl
  | cons h t ih => rw [List.any_cons, List.any_cons, ih, h.1]
theorem KV.repl {kvs : List (κ × V)} {vs : List (κ × Value)} (r : KV kvs vs) (k : κ) {y : V} {u : Value} (ry : RelV y u) :
    KV (kvs.map fun kv => if kv.1 = k then (kv.1, y) else kv) (vs.map fun kv => if kv.1 = k then (kv.1, u) else kv) := by
  unfold KV at r ⊢
  induction r with
  | nil => exact .nil
  | @cons p q ps qs h t ih =>
    rw [List.map_cons, List.map_cons]
    refine .cons ?_ ih
    obtain ⟨h1, h2⟩ := h
    by_cases e : p.1 = k
    · rw [if_pos e, if_pos (h1.symm.trans e)]; exact ⟨h1, ry⟩
    · rw [if_neg e, if_neg (fun z => e (h1.trans z))]; exact ⟨h1, h2⟩
theorem KV.put {kvs : List (κ × V)} {vs : List (κ × Value)} (r : KV kvs vs) (k : κ) {y : V} {u : Value} (ry : RelV y u) : KV (putK kvs k y) (stored vs k u) := by
  unfold putK stored
  rw [r.any k]
  by_cases e : (vs.any fun kv => decide (kv.1 = k)) = true
  · rw [if_pos e, if_pos e]; exact r.repl k ry
  · rw [if_neg e, if_neg e]; exact Paired.snoc r ⟨rfl, ry⟩
theorem KV.drop {kvs : List (κ × V)} {vs : List (κ × Value)} (r : KV kvs vs) (k : κ) : KV (dropK kvs k) (without vs k) := by
  unfold KV at r ⊢
  unfold dropK without
  induction r with
  | nil => exact .nil
  | @cons p q ps qs h t ih =>
    obtain ⟨h1, h2⟩ := h
    rw [List.filter_cons, List.filter_cons]
    by_cases e : p.1 = k
    · have a : ¬ decide (p.1 ≠ k) = true := by simp [e]
      have b : ¬ decide (q.1 ≠ k) = true := by simp [h1.symm.trans e]
      rw [if_neg a, if_neg b]; exact ih
    · have e' : ¬ q.1 = k := fun z => e (h1.trans z)
      have a : decide (p.1 ≠ k) = true := by simp [e]
      have b : decide (q.1 ≠ k) = true := by simp [e']
      rw [if_pos a, if_pos b]; exact .cons ⟨h1, h2⟩ ih
theorem KV.length {kvs : List (κ × V)} {vs : List (κ × Value)} (r : KV kvs vs) : kvs.length = vs.length := Paired.length r
end
abbrev KT (H : Hp) : List (List Key × V) → List (List Key × Addr × Value) → Prop := Paired fun p q => p.1 = q.1 ∧ H q.2.1 = some (.tup (p.1.map kV)) ∧ RelV p.2 q.2.2
theorem KT.val {H : Hp} {kvs : List (List Key × V)} {xs : List (List Key × Addr × Value)} (r : KT H kvs xs) (k : List Key) : RelO (valV kvs k) ((atKey xs k).map (·.2)) := by
  induction r with
  | nil => exact True.intro
  | @cons p q ps qs h t ih =>
    obtain ⟨h1, _, h2⟩ := h
    by_cases e : p.1 = k
    · have e' : q.1 = k := h1.symm.trans e
      have b : atKey (q :: qs) k = some q.2 := by simp [atKey, List.find?_cons, e']
      rw [valV_pos e, b]; exact h2
    · have e' : ¬ q.1 = k := fun z => e (h1.trans z)
      have b : atKey (q :: qs) k = atKey qs k := by simp [atKey, List.find?_cons, e']
      rw [valV_neg e, b]; exact ih
theorem KT.repl {H : Hp} {kvs : List (List Key × V)} {xs : List (List Key × Addr × Value)} (r : KT H kvs xs) (k : List Key) {y : V} {u : Value} (ry : RelV y u) :
    KT H (kvs.map fun kv => if kv.1 = k then (kv.1, y) else kv) (xs.map (putAt k u)) := by
  induction r with
  | nil => exact .nil
  | @cons p q ps qs h t ih =>
    rw [List.map_cons, List.map_cons]
    refine .cons ?_ ih
    obtain ⟨h1, h2, h3⟩ := h
    unfold putAt
    by_cases e : p.1 = k
    · rw [if_pos e, if_pos (h1.symm.trans e)]; exact ⟨h1, h2, ry⟩
    · rw [if_neg e, if_neg (fun z => e (h1.trans z))]; exact ⟨h1, h2, h3⟩
theorem KT.put {H : Hp} {kvs : List (List Key × V)} {xs : List (List Key × Addr × Value)} (r : KT H kvs xs) (k : List Key) {b : Addr} {y : V} {u : Value} (hb : H b = some (.tup (k.map kV))) (ry : RelV y u) :
    KT H (putK kvs k y) (storedH xs k b u) := by
  have e : (kvs.any fun kv => decide (kv.1 = k)) = (atKey xs k).isSome := by
    rw [valV_any, (r.val k).isSome_eq, Option.isSome_map]
  unfold putK storedH
  rw [e]
  by_cases q : (atKey xs k).isSome = true
  · rw [if_pos q, if_pos q]; exact r.repl k ry
  · rw [if_neg q, if_neg q]; exact Paired.snoc r ⟨rfl, hb, ry⟩
theorem KT.keeps {H H' : Hp} {kvs : List (List Key × V)} {xs : List (List Key × Addr × Value)} (r : KT H kvs xs) (ht : ∀ b ys, H b = some (.tup ys) → H' b = some (.tup ys)) : KT H' kvs xs :=
  Paired.mapP r fun _ _ z => ⟨z.1, ht _ _ z.2.1, z.2.2⟩
section
variable {P : Program} {w : World} {H : Hp} {h : Heap} {a : Addr}
end
def DGet (H : Hp) (a : Addr) (y : V) (r : Option V) : Prop :=
  (∃ kvs k, Rd H a (.dK kvs) ∧ y = kV k ∧ r = valV kvs k) ∨ ∃ kvs k b, Rd H a (.dT kvs) ∧ y = .ref b ∧ H b = some (.tup (k.map kV)) ∧ r = valV kvs k
def DPut (H : Hp) (a : Addr) (y v : V) (H' : Hp) : Prop :=
  (∃ kvs k, H a = some (.dK kvs) ∧ y = kV k ∧ kvs.length < sizeLine ∧ H' = upd H a (.dK (putK kvs k v))) ∨
  ∃ kvs k b, H a = some (.dT kvs) ∧ y = .ref b ∧ H b = some (.tup (k.map kV)) ∧ kvs.length < sizeLine ∧ H' = upd H a (.dT (putK kvs k v))
theorem DGet.k {H : Hp} {a : Addr} {kvs : List (Key × V)} {k : Key} (e : H a = some (.dK kvs)) : DGet H a (kV k) (valV kvs k) := .inl ⟨kvs, k, .inl e, rfl, rfl⟩
theorem DGet.t {H : Hp} {a b : Addr} {kvs : List (List Key × V)} {k : List Key} (e : H a = some (.dT kvs)) (eb : H b = some (.tup (k.map kV))) : DGet H a (.ref b) (valV kvs k) := .inr ⟨kvs, k, b, .inl e, rfl, eb, rfl⟩
theorem DPut.k {H : Hp} {a : Addr} {kvs : List (Key × V)} {k : Key} {v : V} (e : H a = some (.dK kvs)) (hl : kvs.length < sizeLine) : DPut H a (kV k) v (upd H a (.dK (putK kvs k v))) := .inl ⟨kvs, k, e, rfl, hl, rfl⟩
theorem DPut.t {H : Hp} {a b : Addr} {kvs : List (List Key × V)} {k : List Key} {v : V} (e : H a = some (.dT kvs)) (eb : H b = some (.tup (k.map kV))) (hl : kvs.length < sizeLine) :
    DPut H a (.ref b) v (upd H a (.dT (putK kvs k v))) := .inr ⟨kvs, k, b, e, rfl, eb, hl, rfl⟩
section
variable {X : Cx} {pins : List (Addr × Obj)} {σ : St} {H : Hp} {s : Shared} {a : Addr} {y v : V} {u r : Value} {o : Option V} {A : Around} {E : Value → Shared → Prop}
end
section
variable {X : Cx} {pins : List (Addr × Obj)} {σ : St} {H : Hp} {s : Shared} {a : Addr} {kvs : List (Key × V)} {k : Key} {u : Value} {A : Around} {E : Value → Shared → Prop}
end
def tDIn (ty td : TE) : TE := fun σ H Q => ty σ H fun y H1 => td σ H1 fun x H2 => ∃ a o, x = .ref a ∧ DGet H2 a y o ∧ Q (.bl o.isSome) H2
section
variable {X : Cx} {o i e value : Expr} {pos pos' tpos : Pos} {td ty tv : TE}
end
section
variable {X : Cx} {pos : Pos}
end
abbrev VV : List (V × V) → List (Value × Value) → Prop := Paired fun p q => RelV p.1 q.1 ∧ RelV p.2 q.2
structure M1 (X : Cx) (o : Expr) (m : Str) (apos : Pos) (e : Expr) (cpos : Pos) : Prop where
  base : attributeBase o m X.env (eval o X.env) = eval o X.env
  few : ((backTo cpos (starEach [e] X.env)).all (fun x => !x.1) && (backToKw cpos (keywordEach [] X.env)).all (fun x => x.1.isSome)
    && decide (([e] : List Expr).length + ([] : List Keyword).length + (if ([] : List Keyword).isEmpty then 0 else 1) < 30)) = true
  line : (apos.endLine == cpos.line) = true
  trees : backTo cpos (starEach [e] X.env) = [(false, eval e X.env)]
structure M2 (X : Cx) (o : Expr) (m : Str) (apos : Pos) (e f : Expr) (cpos : Pos) : Prop where
  base : attributeBase o m X.env (eval o X.env) = eval o X.env
  few : ((backTo cpos (starEach [e, f] X.env)).all (fun x => !x.1) && (backToKw cpos (keywordEach [] X.env)).all (fun x => x.1.isSome)
    && decide (([e, f] : List Expr).length + ([] : List Keyword).length + (if ([] : List Keyword).isEmpty then 0 else 1) < 30)) = true
  line : (apos.endLine == cpos.line) = true
  trees : backTo cpos (starEach [e, f] X.env) = [(false, eval e X.env), (false, eval f X.env)]
section
variable {X : Cx} {pins : List (Addr × Obj)} {σ : St} {H : Hp} {s : Shared} {a : Addr} {y d : V} {u r : Value} {o : Option V} {A : Around} {E : Value → Shared → Prop}
end
section
variable {X : Cx} {o e f : Expr} {apos cpos : Pos} {td ty tx : TE}
end
section
variable {X : Cx} {pins : List (Addr × Obj)} {σ : St} {H : Hp} {s : Shared} {a : Addr} {kvs : List (Key × V)} {A : Around} {E : Value → Shared → Prop}
end
section
variable {X : Cx} {pins : List (Addr × Obj)} {σ : St} {H : Hp} {s : Shared} {a : Addr} {y : V} {u : Value} {A : Around} {E : Value → Shared → Prop}
end
end L2
namespace PySem
open Sem (wp)
end PySem
namespace L2
open PySem PySem.Spec PyProof.Rows
section
variable {prog : Program} {w : World} {A : Around} {E : Value → Shared → Prop}
end
end L2
namespace L2
open PySem PySem.Spec PyProof.Rows
section
variable {X : Cx}
def rDictP (K : PySem.W.Frag) : List V → Hp → VK → Prop := fun xs H Q => ∃ (l : Addr) (ys : List V) (prs : List (Key × V)), xs = [.ref l] ∧ SqL K H l ys ∧ ys.length = prs.length ∧ prs.length ≤ 900 ∧
  (∀ (j : Nat) (y : V) (p : Key × V), ys[j]? = some y → prs[j]? = some p → ∃ t, y = .ref t ∧ H t = some (.tup [kV p.1, p.2])) ∧ ∀ d, H d = none → Q (.ref d) (upd H d (.dK (prs.foldl (fun a p => putK a p.1 p.2) [])))
end
end L2
namespace PySem
open Sem (wp)
section
variable {prog : Program} {w : World} {A : Around} {E : Value → Shared → Prop} {s : Shared}
theorem drawT_item {it t : Addr} {i : Nat} {items : Array Value} {x : Value} {Q : Value → Shared → Prop} (hI : s.heap.IsTupleIter it t i) (hT : s.heap.IsTuple t items) (hx : items[i]? = some x)
    (q : ∀ h', h'.IsTupleIter it t (i + 1) → Heap.SameBut it s.heap h' → Q x { s with heap := h' }) : wpAny (model prog w) A (Builtin.SmallTypes.nextOf (.ref it)) Q E s := by
  obtain ⟨oi, hoi, hci, hdi⟩ := id hI
  obtain ⟨ot, hot, _, nt, hdt⟩ := hT
  unfold Builtin.SmallTypes.nextOf
  refine wpAny_bind (wpAny_callSpecial?_slot (name := Str.ofString "__next__") hI.typeIs F.slot_tuple_iterator_next (wpAny_call_entry F.slot_tuple_iterator_next hI.typeIs F.entry_tuple_iterator_next ?_ (F.args_tuple_iterator_next_1 _)))
  refine wpAny_bind (m := field (.ref it) 0) (wpAny_field hoi hdi (x := .ref t) rfl ?_)
  dsimp only
  rw [if_neg (show ¬ ((Value.ref t == Value.none) = true) by exact Bool.false_ne_true)]
  refine wpAny_bind (m := field (.ref it) 1) (wpAny_field hoi hdi (x := .int i 0) rfl ?_)
  refine wpAny_bind (m := seqItems? (.ref t)) (wpAny_seqItems hot hdt ?_)
  simp only [Int.toNat_natCast, hx]
  refine wpAny_bind (wpAny_setField hoi hdi (by simp) (wpAny_pure ⟨x, rfl, wpAny_pure (q _ ⟨_, Heap.get?_update_self _ hoi (Obj.isFreed_of_fields (Obj.data_mapFields hdi _)), (Obj.cls_mapFields ..).trans hci, ?_⟩ (Heap.SameBut.update ..))⟩))
  rw [Obj.data_mapFields hdi]
  simp [rawInt]
theorem drawT_end {it t : Addr} {i : Nat} {items : Array Value} {Q : Value → Shared → Prop} (hh : A.handled = none) (hI : s.heap.IsTupleIter it t i) (hT : s.heap.IsTuple t items) (hx : items[i]? = none)
    (q : ∀ h' e, Heap.ExtBut it s.heap h' → (∃ o, h'.get? e = some o ∧ o.cls = .type "StopIteration") → E (.ref e) { s with heap := h' }) : wpAny (model prog w) A (Builtin.SmallTypes.nextOf (.ref it)) Q E s := by
  obtain ⟨oi, hoi, hci, hdi⟩ := id hI
  obtain ⟨ot, hot, _, nt, hdt⟩ := hT
  unfold Builtin.SmallTypes.nextOf
  refine wpAny_bind (wpAny_callSpecial?_slot (name := Str.ofString "__next__") hI.typeIs F.slot_tuple_iterator_next (wpAny_call_entry F.slot_tuple_iterator_next hI.typeIs F.entry_tuple_iterator_next ?_ (F.args_tuple_iterator_next_1 _)))
  refine wpAny_bind (m := field (.ref it) 0) (wpAny_field hoi hdi (x := .ref t) rfl ?_)
  dsimp only
  rw [if_neg (show ¬ ((Value.ref t == Value.none) = true) by exact Bool.false_ne_true)]
  refine wpAny_bind (m := field (.ref it) 1) (wpAny_field hoi hdi (x := .int i 0) rfl ?_)
  refine wpAny_bind (m := seqItems? (.ref t)) (wpAny_seqItems hot hdt ?_)
  simp only [Int.toNat_natCast, hx]
  refine wpAny_bind (wpAny_rule (wpAny_bind (wpAny_setField hoi hdi (by simp) (wpAny_bind (m := newExc (.type "StopIteration") []) ?_))))
  simp only [newExc, newTuple]
  refine wpAny_bind (wpAny_newObj_type (wpAny_bind (m := firstArgMember _ _) (wpAny_of_eq (a := Value.none) (by first | rfl | (simp only [firstArgMember]; rfl)) (wpAny_newObj_type ?_ (by size_fits)))) (by size_fits))
  simp only [raiseNew]
  refine wpAny_bind (wpAny_handled ?_)
  first | rw [show A.in1.handled = none by exact hh] | rw [hh]
  exact wpAny_bind (wpAny_pure (wpAny_throw (q _ _ (((Heap.SameBut.update ..).extBut.push _).push _) ⟨_, Heap.get?_push_size _ rfl, rfl⟩)))
theorem Draws.tup (hh : A.handled = none) (it t : Addr) (hne : t ≠ it) (items : Array Value) : Draws prog w A it [it, t] items.size (fun i v => items[i]? = some v) (fun i h => h.IsTupleIter it t i ∧ h.IsTuple t items) where
  live := fun _ _ st => let ⟨o, ho, _⟩ := st.1; ⟨o, ho⟩
  frame := fun _ _ _ st hk => ⟨st.1.at fun o e => hk it (by simp) o e, let ⟨o, ho, r⟩ := st.2; ⟨o, hk t (by simp) o ho, r⟩⟩
  item := fun i s Q E hi st hQ => by
    refine drawT_item st.1 st.2 (x := items[i]) (by simp [hi]) fun h' hit' hs' => hQ _ h' s.toks (by simp [hi]) ⟨hit', ?_⟩ hs'
    obtain ⟨o, ho, r⟩ := st.2
    exact ⟨o, (hs'.2 t hne).trans ho, r⟩
  done := fun s Q E st hE => drawT_end hh st.1 st.2 (by simp) hE
end
end PySem
namespace L2
open PySem PySem.Spec PyProof.Rows
def Itte (K : PySem.W.Frag) (a : Addr) : It :=
  ⟨fun i H => ∃ xs x, SqT K H a xs ∧ xs[i]? = some x, fun i H v H' => ∃ T x, H T = none ∧ v = .ref T ∧ (∀ xs, SqT K H a xs → xs[i]? = some x) ∧ H' = upd H T (.tup [.int i, x]), fun i H => ∃ xs, SqT K H a xs ∧ xs.length = i⟩
section
variable {X : Cx}
def iEnumT (K : PySem.W.Frag) (ta : TA) : TI := fun σ H R => ta σ H fun vs H1 => ∃ a, vs = [.ref a] ∧ (∃ xs, SqT K H1 a xs) ∧ R (Itte K a) H1
end
end L2
namespace SH
open PySem L2
def wayGo : List Int → Int → List Nd → List Int
  | W, _, [] => W
  | W, k, n :: r => wayGo (W.take n.2.toNat ++ [k]) (k + 1) r
def way (ns : List Nd) : List Int := wayGo [] 0 ns
def kept (ps W : List Int) : List Int := W.filter fun j => decide (j ∈ ps)
theorem Same.none {H H' : Hp} (s : Same H H') {b : Addr} (h : H' b = none) : H b = none := by
  cases e : H b with
  | none => rfl
  | some o => rw [s _ _ e] at h; cases h
def below (ps : List Int) (i : Nat) : List Int := ps.filter fun p => decide (p < (i : Int))
end SH
namespace L2
open PySem PySem.Spec PyProof.Rows
section
variable {X : Cx}
def rRange1 : List V → Hp → VK → Prop := fun xs H Q => ∃ n : Int, xs = [.int n] ∧ ∀ r, H r = none → Q (.ref r) (upd H r (.rng 0 n))
def rRange2 : List V → Hp → VK → Prop := fun xs H Q => ∃ lo hi : Int, xs = [.int lo, .int hi] ∧ ∀ r, H r = none → Q (.ref r) (upd H r (.rng lo hi))
def rListR : List V → Hp → VK → Prop := fun xs H Q => ∃ (r : Addr) (lo hi : Int), xs = [.ref r] ∧ H r = some (.rng lo hi) ∧ (-(2 ^ 62) ≤ lo ∧ lo < 2 ^ 62 ∧ -(2 ^ 62) ≤ hi ∧ hi < 2 ^ 62) ∧ (hi - lo).toNat ≤ 900 ∧ ∀ l, H l = none → Q (.ref l) (upd H l (.lst (((List.range (hi - lo).toNat).map fun i : Nat => lo + (i : Int)).map V.int)))
end
end L2
namespace SH
open PySem L2
end SH
namespace L2
open PySem PySem.Spec PyProof.Rows
section
variable {X : Cx}
def rCountT (K : PySem.W.Frag) : V → List V → Hp → VK → Prop := fun x vs H Q => ∃ t xs y, x = .ref t ∧ vs = [y] ∧ SqT K H t xs ∧ flatV y = true ∧ xs.all flatV = true ∧ Q (.int ((xs.countP fun z => eqV z y : Nat) : Int)) H
end
def TupF (H : Hp) (t : Addr) (xs : List V) : Prop := ∃ o : Obj, H t = some (.frz o (.tup xs)) ∧ o.cls = .type "tuple" ∧ o.dict = none
theorem TupF.keep {H H' : Hp} {t : Addr} {xs : List V} (s : ∀ b o, (∀ zs, o ≠ HO.lst zs) → H b = some o → H' b = some o) (h : TupF H t xs) : TupF H' t xs := let ⟨o, e, r⟩ := h; ⟨o, s _ (.frz o _) (fun _ z => nomatch z) e, r⟩
theorem TupF.to {H H' : Hp} {t : Addr} {xs : List V} (h : TupF H t xs) (s : ∀ o, H t = some (.frz o (.tup xs)) → H' t = some (.frz o (.tup xs))) : TupF H' t xs := let ⟨o, e, r⟩ := h; ⟨o, s o e, r⟩
section
variable {X : Cx}
def rTupF (K : PySem.W.Frag) : List V → Hp → VK → Prop := fun xs H Q => ∃ p ys, xs = [.ref p] ∧ SqL K H p ys ∧ ∀ l (o : Obj), H l = none → o.cls = .type "tuple" → o.dict = none → Q (.ref l) (upd H l (.frz o (.tup ys)))
def tCountF (K : PySem.W.Frag) (to : TE) (t : TA) : TE := fun σ H Q => to σ H fun x H1 => ∃ p zs, x = .ref p ∧ TupF H1 p zs ∧ t σ H1 fun xs H2 => rCountT K x xs H2 Q
end
end L2
namespace L2
open PySem PySem.Spec PyProof.Rows
theorem comp_tup {K : PySem.W.Frag} {a : Addr} {xs : List V} {x0 : Str} {ix : List Nat} {ti : TT} {te : TE} {Q : VK} {σ : St} {H : Hp} (Pv : Nat → List V → Hp → Prop) (h0 : Pv 0 [] H) (hl : ∀ i ys H, i ≤ xs.length → Pv i ys H → SqT K H a xs)
    (hs : ∀ i x ys H (R : List V → Hp → Prop), xs[i]? = some x → Pv i ys H → (∀ ys' H', Pv (i + 1) ys' H' → R ys' H') → ti (some x :: ix.map fun j => (σ[j]?).join) H fun b H3 => if b = true then te (some x :: ix.map fun j => (σ[j]?).join) H3 fun y H4 => ys.length < sizeLine ∧ R (ys ++ [y]) H4 else R ys H3)
    (hd : ∀ ys H, Pv xs.length ys H → ys.length ≤ sizeLine ∧ ∀ D, H D = none → Q (.ref D) (upd H D (.lst ys))) :
    ∃ W : Nat → Nat → List V → St → Hp → Prop, (∃ m, W 0 m [] (capS σ [x0] ix) H) ∧ ∀ i m ys σ' H, W i m ys σ' H →
      ((Itt K a).stop i H ∧ ys.length ≤ sizeLine ∧ ∀ D, H D = none → Q (.ref D) (upd H D (.lst ys))) ∨
      ((Itt K a).go i H ∧ ∀ x H', (Itt K a).yld i H x H' → gName 0 x σ' H' fun σ2 H2 => ti σ2 H2 fun b H3 => if b = true then te σ2 H3 fun y H4 => ys.length < sizeLine ∧ ∃ m', m' < m ∧ W (i + 1) m' (ys ++ [y]) σ2 H4 else ∃ m', m' < m ∧ W (i + 1) m' ys σ2 H3) := by
  refine ⟨fun i m ys σ' H => m = xs.length - i ∧ i ≤ xs.length ∧ (∃ o, σ' = o :: ix.map fun j => (σ[j]?).join) ∧ Pv i ys H, ⟨xs.length, by simp, Nat.zero_le _, ⟨none, rfl⟩, h0⟩, ?_⟩
  rintro i m ys σ' H ⟨rfl, hi, ⟨o, rfl⟩, p⟩
  have q := hl i ys H hi p
  by_cases hlt : i < xs.length
  · refine .inr ⟨⟨xs, xs[i], q, by simp [hlt]⟩, fun x H' y => ?_⟩
    obtain ⟨e, y⟩ := y
    subst e
    exact hs i x ys _ (fun ys' H4 => ∃ m', m' < xs.length - i ∧ m' = xs.length - (i + 1) ∧ i + 1 ≤ xs.length ∧ (∃ o', some x :: (ix.map fun j => (σ[j]?).join) = o' :: ix.map fun j => (σ[j]?).join) ∧ Pv (i + 1) ys' H4) (y xs q) p
      fun ys' H4 z => ⟨xs.length - (i + 1), by omega, rfl, hlt, ⟨_, rfl⟩, z⟩
  · have e : i = xs.length := by omega
    subst e
    exact .inl ⟨⟨xs, q, Nat.le_refl _⟩, hd ys H p⟩
theorem tcomp_tup {K : PySem.W.Frag} {a : Addr} {xs : List V} {x0 : Str} {ix : List Nat} {wi : TI} {ti : TT} {te : TE} {Q : VK} {σ : St} {H H1 : Hp} (hi : ∀ R : It → Hp → Prop, R (Itt K a) H1 → wi σ H R) (Pv : Nat → List V → Hp → Prop) (h0 : Pv 0 [] H1) (hl : ∀ i ys H, i ≤ xs.length → Pv i ys H → SqT K H a xs)
    (hs : ∀ i x ys H (R : List V → Hp → Prop), xs[i]? = some x → Pv i ys H → (∀ ys' H', Pv (i + 1) ys' H' → R ys' H') → ti (some x :: ix.map fun j => (σ[j]?).join) H fun b H3 => if b = true then te (some x :: ix.map fun j => (σ[j]?).join) H3 fun y H4 => ys.length < sizeLine ∧ R (ys ++ [y]) H4 else R ys H3)
    (hd : ∀ ys H, Pv xs.length ys H → ys.length ≤ sizeLine ∧ ∀ D, H D = none → Q (.ref D) (upd H D (.lst ys))) : tComp [x0] ix wi (gName 0) ti te σ H Q := hi _ (comp_tup Pv h0 hl hs hd)
end L2
namespace SH
open PySem L2
theorem _root_.L2.TupF.same {H H' : Hp} {t : Addr} {xs : List V} (s : Same H H') (h : TupF H t xs) : TupF H' t xs := let ⟨o, e, r⟩ := h; ⟨o, s _ _ e, r⟩
end SH
namespace PySem
open Sem (wp)
structure ZipAway (z TI TO i1 i2 : Addr) (f1 f2 : List Addr) : Prop where
  zt : TO ≠ z
  kz : TI ≠ z
  kt : TI ≠ TO
  k1 : TI ≠ i1
  k2 : TI ≠ i2
  z1 : z ∉ f1
  z2 : z ∉ f2
  t1 : TO ∉ f1
  t2 : TO ∉ f2
  m1 : i1 ∈ f1
  m2 : i2 ∈ f2
  o1 : i1 ∉ f2
  o2 : i2 ∉ f1
section
variable {prog : Program} {w : World} {A : Around} {E : Value → Shared → Prop} {s : Shared} {z TI TO i1 i2 : Addr} {f1 f2 : List Addr} {n1 n2 : Nat} {P1 P2 : Nat → Value → Prop} {S1 S2 : Nat → Heap → Prop}
theorem keepBut {b : Addr} {h h' : Heap} (e : Heap.SameBut b h h') {c : Addr} {o : Obj} (hc : c ≠ b) (g : h.get? c = some o) : h'.get? c = some o := e.extBut _ _ hc g
theorem Draws.stay {it : Addr} {fp : List Addr} {n i : Nat} {P : Nat → Value → Prop} {St : Nat → Heap → Prop} {h h' : Heap} {b : Addr} (D : Draws prog w A it fp n P St) (st : St i h) (hb : b ∉ fp) (e : Heap.SameBut b h h') : St i h' :=
  D.frame i h h' st fun c hc o g => keepBut e (fun q => hb (q ▸ hc)) g
end
end PySem
namespace L2
open PySem PySem.Spec PyProof.Rows
def Ittz (a b : Addr) : It :=
  ⟨fun i H => ∃ xs ys x y, Rd H a (.tup xs) ∧ Rd H b (.tup ys) ∧ xs[i]? = some x ∧ ys[i]? = some y, fun i H v H' => ∃ T x y, H T = none ∧ v = .ref T ∧ (∀ xs, Rd H a (.tup xs) → xs[i]? = some x) ∧ (∀ ys, Rd H b (.tup ys) → ys[i]? = some y) ∧ H' = upd H T (.tup [x, y]),
    fun i H => ∃ xs ys, Rd H a (.tup xs) ∧ Rd H b (.tup ys) ∧ i = min xs.length ys.length⟩
theorem Rd.one {H : Hp} {a : Addr} {xs ys : List V} (h1 : Rd H a (.tup xs)) (h2 : Rd H a (.tup ys)) : xs = ys := by
  rcases h1 with h1 | ⟨o, h1⟩ <;> rcases h2 with h2 | ⟨o', h2⟩ <;> (rw [h1] at h2; cases h2 <;> rfl)
theorem Rd.ne {H : Hp} {a b : Addr} {u : HO} (h : Rd H a u) (n : H b = none) : a ≠ b := fun e => by
  rcases h with h | ⟨o, h⟩ <;> (rw [e, n] at h; cases h)
structure ZipNew (z TI TO i1 i2 : Addr) : Prop where
  tz : TO ≠ z
  kz : TI ≠ z
  kt : TI ≠ TO
  k1 : TI ≠ i1
  k2 : TI ≠ i2
  z1 : i1 ≠ z
  z2 : i2 ≠ z
  t1 : TO ≠ i1
  t2 : TO ≠ i2
  ii : i1 ≠ i2
theorem ZipNew.of (n : Nat) : ZipNew (n + 4) (n + 2) (n + 3) n (n + 1) := by constructor <;> (intro e; have e' : (_ : Nat) = _ := e; omega)
section
variable {X : Cx}
def iZipT (ta : TA) : TI := fun σ H R => ta σ H fun vs H1 => ∃ a b xs ys, vs = [.ref a, .ref b] ∧ Rd H1 a (.tup xs) ∧ Rd H1 b (.tup ys) ∧ R (Ittz a b) H1
end
end L2
namespace HT
open PySem PySem.Spec PyProof.Rows
section
variable {prog : Program} {w : World} {A : Around} {E : Value → Shared → Prop} {s : Shared}
theorem getItem_tuple_all {t sl : Addr} {items : Array Value} {vl vu : Value} {lo hi : Option Int} {Q : Value → Shared → Prop} (ht : IsTup s.heap t items) (hs : s.heap.IsSliceOf sl vl vu .none) (pl : IsPart vl lo) (pu : IsPart vu hi)
    (hw : sIx items.size 0 lo = 0 ∧ sIx items.size items.size hi = items.size) (h : Q (.ref t) s) : wpAny (model prog w) A (getItem (.ref t) (.ref sl)) Q E s := by
  obtain ⟨os, hos, hcs, hds⟩ := id hs
  have hTs : s.TypeIs (.ref sl) "slice" := ⟨os, hos, hcs⟩
  unfold getItem
  try with_reducible refine wpAny_holding ?_
  first | refine wpAny_bind (wpAny_pure ?_) | skip
  refine wpAny_bind (wpAny_sequenceKey ht.typeIs (by decide) ?_)
  refine wpAny_bind (wpAny_callSpecial?_slot (name := Str.ofString "__getitem__") ht.typeIs PyProof.Rows.slot_tuple_getitem
    (wpAny_call_entry PyProof.Rows.slot_tuple_getitem ht.typeIs entry_tuple_getitem ?_ (args_tuple_getitem _ _)))
  show wpAny _ _ (Builtin.Tuple.tupleItemsOf (.ref t) >>= _) _ _ s
  refine wpAny_bind (tupleItemsOf_ ht ?_)
  refine wpAny_bind (wpAny_typeOf hTs ?_)
  rw [if_pos (by decide)]
  refine wpAny_bind (sliceApplied_gen hs pl pu ?_)
  have hyes : (((sIx items.size 0 lo : Nat) : Int) == 0 && (1 : Int) == 1 && (sIx items.size items.size hi - sIx items.size 0 lo) == items.size) = true := by
    rw [hw.1, hw.2]
    simp
  show wpAny _ _ (if (((sIx items.size 0 lo : Nat) : Int) == 0 && (1 : Int) == 1 && (sIx items.size items.size hi - sIx items.size 0 lo) == items.size) = true then _ else _) _ _ s
  rw [if_pos hyes]
  refine wpAny_bind (m := Builtin.Tuple.tupleIsExact (.ref t)) ?_
  refine wpAny_bind (wpAny_typeOf ht.typeIs (wpAny_pure ?_))
  rw [if_pos (by decide)]
  exact wpAny_bind (wpAny_rule (wpAny_pure ⟨_, rfl, wpAny_pure h⟩))
end
end HT
namespace L2
open PySem PySem.Spec PyProof.Rows
def rSlTa (K : PySem.W.Frag) : V → Option Int → Option Int → Hp → VK → Prop := fun x lo hi H Q => ∃ a xs, x = .ref a ∧ SqT K H a xs ∧
  ((HT.sIx xs.length 0 lo = 0 ∧ HT.sIx xs.length xs.length hi = xs.length) → Q (.ref a) H) ∧ (¬ (HT.sIx xs.length 0 lo = 0 ∧ HT.sIx xs.length xs.length hi = xs.length) → ∀ p, H p = none → Q (.ref p) (upd H p (.tup (cutV xs lo hi))))
theorem sl_tupA {X : Cx} : SlR X (rSlTa X.K) := by
  intro pins s σ H x v vl vu lo hi sl Q I rx hs pl pu h
  obtain ⟨a, xs, rfl, hx, q1, q2⟩ := h
  by_cases hw : HT.sIx xs.length 0 lo = 0 ∧ HT.sIx xs.length xs.length hi = xs.length
  · cases rx
    obtain ⟨its, r, ht, hz⟩ := I.tuple hx
    have hlen : its.toArray.size = xs.length := by rw [List.size_toArray]; exact r.length.symm
    refine ⟨"tuple", _, PyProof.Rows.slot_tuple_getitem.lookup, ht.typeIs, ?_⟩
    exact HT.getItem_tuple_all ht hs pl pu (by rw [hlen]; exact hw) ⟨.ref a, H, I, rfl, q1 hw⟩
  · exact sl_tup pins s σ H _ v vl vu lo hi sl Q I rx hs pl pu ⟨a, xs, rfl, hx, hw, q2 hw⟩
end L2
namespace L2
open PySem PySem.Spec PyProof.Rows
section
variable {X : Cx}
def rCount (K : PySem.W.Frag) : V → List V → Hp → VK → Prop := fun x vs H Q => ∃ l xs y, x = .ref l ∧ vs = [y] ∧ SqL K H l xs ∧ flatV y = true ∧ xs.all flatV = true ∧ Q (.int ((xs.countP fun z => eqV z y : Nat) : Int)) H
def rInD (K : PySem.W.Frag) : R2 := fun x y H Q => ∃ p xs d ds, y = .ref p ∧ SqL K H p xs ∧ DatV K H x d ∧ DatVs K H xs ds ∧ SeqAt.shaped d = true ∧ (∀ e ∈ ds, SeqAt.shaped e = true) ∧ Q (.bl (ds.any fun e => PyData.eqv e d)) H
inductive Two {α β : Type} (R : α → β → Prop) : List α → List β → Prop
  | nil : Two R [] []
  | cons {a : α} {b : β} {as : List α} {bs : List β} : R a b → Two R as bs → Two R (a :: as) (b :: bs)
theorem DatVs.reads {pins : List (Addr × Obj)} {σ : St} {H : Hp} {s : Shared} (I : Inv X pins σ H s) : ∀ {xs : List V} {ds : List PyData}, DatVs X.K H xs ds → (∀ e ∈ ds, SeqAt.shaped e = true) → ∀ us, Vals xs us → Two (fun u d => (∃ as, Reads s.heap u d as) ∧ SeqAt.shaped d = true) us ds
  | _, _, .nil, _, _, .nil => .nil
  | _, _, .cons h1 h2, f, _, .cons r1 r2 => .cons ⟨h1.reads I _ r1, f _ List.mem_cons_self⟩ (DatVs.reads I h2 (fun e he => f e (List.mem_cons_of_mem _ he)) _ r2)
end
end L2
namespace SH
open PySem L2
theorem cut_toN {xs : List V} {n : Nat} (h1 : 0 < n) (h2 : n ≤ xs.length) : cutV xs none (some (-(n : Int))) = xs.take (xs.length - n) := by
  unfold cutV HT.sIx
  simp only [List.drop_zero]
  rw [if_pos (by omega), show (-(n : Int) + (xs.length : Int)).toNat - 0 = xs.length - n by omega]
theorem cut_fromN {xs : List V} {n : Nat} (h1 : 0 < n) (h2 : n ≤ xs.length) : cutV xs (some (-(n : Int))) none = xs.drop (xs.length - n) := by
  unfold cutV HT.sIx
  simp only []
  rw [if_pos (by omega), show (-(n : Int) + (xs.length : Int)).toNat = xs.length - n by omega]
  exact List.take_of_length_le (by rw [List.length_drop]; omega)
end SH
namespace L2
open PySem PySem.Spec PyProof.Rows
theorem tcomp_tupW {K : PySem.W.Frag} {x0 : Str} {ix : List Nat} {wi : TI} {g : TG} {ti : TT} {te : TE} {Q : VK} {σ : St} {H : Hp} (S : Addr → Hp → Prop) (hi : ∀ R : It → Hp → Prop, (∀ a H1, S a H1 → R (Itt K a) H1) → wi σ H R) (h : ∀ a H1, S a H1 → tComp [x0] ix (fun _ _ R => R (Itt K a) H1) g ti te σ H Q) : tComp [x0] ix wi g ti te σ H Q := hi _ h
theorem tIfS_open {c : TT} {t u : TS} {D : Ends} {σ : St} {H : Hp} (P : Bool → Hp → Prop) (hc : ∀ G : Bool → Hp → Prop, (∀ b H1, P b H1 → G b H1) → c σ H G) (ht : ∀ H1, P true H1 → t D σ H1) (hu : ∀ H1, P false H1 → u D σ H1) : tIfS c t u D σ H := hc _ fun b H1 p => by
  cases b with
  | true => rw [if_pos rfl]; exact ht H1 p
  | false => rw [if_neg (by decide)]; exact hu H1 p
end L2
namespace L2
open PySem PySem.Spec PyProof.Rows
section
variable {X : Cx}
theorem Vals.strs : ∀ {zs : List Str} {us : List Value}, Vals (zs.map V.str) us → StrsAre us zs
  | [], _, .nil => .nil
  | _ :: _, _, .cons ⟨_, rfl⟩ t => .cons _ _ (Vals.strs t)
def rJoin (K : PySem.W.Frag) : V → List V → Hp → VK → Prop := fun x vs H Q => ∃ sp p zs, x = .str sp ∧ vs = [.ref p] ∧ (SqL K H p (zs.map V.str) ∨ SqT K H p (zs.map V.str)) ∧ sp.length ≤ 16 ∧ (zs.map (·.length)).sum + zs.length ≤ 1048576 ∧ Q (.str (Str.join sp zs)) H
theorem mt_join : MtM X "str.join" (rJoin X.K) := by
  intro pins s σ H x vs v us Q I rx rv h
  obtain ⟨sp, p, zs, rfl, rfl, hq, h16, hw, q⟩ := h
  obtain ⟨t, rfl⟩ := rx
  obtain ⟨u, rfl, ru⟩ := rv.one
  cases ru
  have go : ∀ t' k, EP X pins σ Q (.str (Txt.join sp zs) t') { s with toks := k } := fun t' k => ⟨.str _, H, I.tok _, ⟨_, rfl⟩, by rw [show Txt.join sp zs = Str.join sp zs from StrLaws.glued_eq_join sp zs]; exact q⟩
  rcases hq with hq | hq
  · obtain ⟨its, r, pl, hz⟩ := I.list hq
    exact join_listW pl.isList (by simpa using r.strs) h16 hw go
  · obtain ⟨its, r, pl, hz⟩ := I.tuple hq
    exact join_tupleW pl (by simpa using r.strs) h16 hw go
def Cx.quiet (X : Cx) : Cx := { X with xe := fun _ _ => False }
variable {pins : List (Addr × Obj)} {σ : St} {H : Hp} {s : Shared}
end
end L2
namespace SH
open PySem PySem.Spec PyProof.Rows
def TLed (w : World) (n : Nat) (t : SetTable) : Prop := (w.params.followText "set-order" = false → t.led = true) ∧ (0 < n → t.plain = false)
def TSet (prog : Program) (w : World) (h : Heap) (a : Addr) (zs : List Str) : Prop :=
  ∃ o es ep t, h.get? a = some o ∧ o.ExactSet ∧ o.data = .set es ep t ∧ ElemsOf (PySem.strKind prog w) es.toList ∧ (es.toList.map fun e => strOf e.2).Perm zs ∧ es.size < scanBound ∧ t.fits es.size = true ∧ TLed w es.size t
section
variable {prog : Program} {w : World} {A : Around} {E : Value → Shared → Prop} {s : Shared}
end
def onceS (zs : List Str) (x : Str) : List Str := if x ∈ zs then zs else zs ++ [x]
def onceL (val : Nat → Str) (i : Nat) : List Str := ((List.range i).map val).foldl onceS []
theorem onceL_succ (val : Nat → Str) (i : Nat) : onceL val (i + 1) = onceS (onceL val i) (val i) := by
  unfold onceL
  rw [List.range_succ, List.map_append, List.foldl_append]
  rfl
section
variable {prog : Program} {w : World} {A : Around} {R : Result → Shared → Prop} {I : Addr} {fp wr : List Addr} {G : Array GenState → Array GenState → Prop} {n : Nat} {P : Nat → Value → Prop} {St : Nat → Shared → Prop}
theorem TSet.kept {h h' : Heap} {a : Addr} {zs : List Str} (T : TSet prog w h a zs) (k : ∀ o, h.get? a = some o → h'.get? a = some o) : TSet prog w h' a zs := by
  obtain ⟨o, es, ep, t, ho, r⟩ := T
  exact ⟨o, es, ep, t, k o ho, r⟩
end
end SH
namespace SH
open PySem PySem.Spec PyProof.Rows
section
variable {prog : Program} {w : World} {A : Around} {E : Value → Shared → Prop} {s : Shared}
abbrev newSetO (led : Bool) : Obj := { cls := .type "set", dict := none, data := .set #[] 0 (.fresh 0 0 led) }
end
end SH
namespace SH
open PySem PySem.Spec PyProof.Rows
section
variable {M : Model} {A : Around} {E : Value → Shared → Prop}
end
end SH
namespace SH
open PySem PySem.Spec PyProof.Rows
def SWay (w : World) (h : Heap) (S : Addr) (es : Array (Int × Value)) (ep : Nat) (t : SetTable) (first : Value) (p : Addr) (i : Nat) (ord : List Value) : Prop :=
  (∃ (pl : List Nat) (c : Nat), first = .ref p ∧ h.get? p = some { cls := .type "tuple", data := .seq (pl.map fun j : Nat => rawInt j).toArray c } ∧ pl.length = es.size ∧ (∀ k j : Nat, pl[k]? = some j → ∃ e : Int × Value, es[j]? = some e ∧ ord[k]? = some e.2))
  ∨ (w.params.followText "set-order" = true ∧ (∃ j, first = .int j 0) ∧ ord = (pickOrder (w.params.setOrder S ep) es).toList.map (·.2))
  ∨ (w.params.followText "set-order" = false ∧ es.size ≤ 1 ∧ t.led = true ∧ first = .int (if i = 0 then 0 else t.place.getD 0 0 + 1 : Nat) 0 ∧ ord = es.toList.map (·.2))
def SIt (w : World) (h : Heap) (I S p : Addr) (ord : List Value) (i : Nat) : Prop :=
  ∃ o es ep t first, h.get? S = some o ∧ o.ExactSet ∧ o.data = .set es ep t ∧ t.fits es.size = true ∧ ord.length = es.size ∧ h.get? I = some { cls := .type "set_iterator", data := .fields #[first, .int i 0, .ref S, .int es.size 0, .int ep 0] } ∧ SWay w h S es ep t first p i ord
section
variable {prog : Program} {w : World} {A : Around} {E : Value → Shared → Prop} {s : Shared}
end
end SH
namespace SH
open PySem PySem.Spec PyProof.Rows
section
variable {prog : Program} {w : World} {A : Around} {E : Value → Shared → Prop} {s : Shared}
end
end SH
namespace SH
open PySem PySem.Spec PyProof.Rows
section
variable {prog : Program} {w : World} {A : Around} {E : Value → Shared → Prop} {s : Shared}
theorem SIt.kept {h h' : Heap} {I S p : Addr} {ord : List Value} {i : Nat} (Z : SIt w h I S p ord i) (k : ∀ b ∈ [I, S, p], ∀ o, h.get? b = some o → h'.get? b = some o) : SIt w h' I S p ord i := by
  obtain ⟨o, es, ep, t, first, ho, hx, hd, ft, ln, gI, way⟩ := Z
  rcases way with ⟨pl, c, rfl, gp, pz, all⟩ | r
  · exact ⟨o, es, ep, t, .ref p, k _ (.tail _ (.head _)) _ ho, hx, hd, ft, ln, k _ (.head _) _ gI, .inl ⟨pl, c, rfl, k _ (.tail _ (.tail _ (.head _))) _ gp, pz, all⟩⟩
  · exact ⟨o, es, ep, t, first, k _ (.tail _ (.head _)) _ ho, hx, hd, ft, ln, k _ (.head _) _ gI, .inr r⟩
end
end SH
namespace SH
open PySem PySem.Spec PyProof.Rows
section
variable {prog : Program} {w : World} {A : Around} {E : Value → Shared → Prop} {s : Shared}
end
end SH
namespace SH
open PySem PySem.Spec PyProof.Rows
section
variable {prog : Program} {w : World} {A : Around} {E : Value → Shared → Prop} {s : Shared}
end
end SH
namespace SH
open PySem PySem.Spec PyProof.Rows
def SortOf (ys ms : List Str) : Prop := sortedS ys = true ∧ ys.Nodup ∧ ∀ z, z ∈ ys ↔ z ∈ ms
theorem SortOf.mem {ys ms ns : List Str} (h : SortOf ys ms) (e : ∀ z, z ∈ ms ↔ z ∈ ns) : SortOf ys ns := ⟨h.1, h.2.1, fun z => (h.2.2 z).trans (e z)⟩
theorem SortOf.one (m : Str) : SortOf [m] [m] := ⟨rfl, List.nodup_cons.mpr ⟨fun h => (nomatch h), List.nodup_nil⟩, fun _ => Iff.rfl⟩
theorem once_nd {val : Nat → Str} : ∀ n, (onceL val n).Nodup
  | 0 => List.nodup_nil
  | n + 1 => by
    rw [onceL_succ]
    unfold onceS
    split
    · exact once_nd n
    · rename_i h
      exact List.nodup_append.mpr ⟨once_nd n, List.nodup_cons.mpr ⟨fun h => (nomatch h), List.nodup_nil⟩, fun a ha b hb e => h (by rw [List.mem_singleton.mp hb] at e; exact e ▸ ha)⟩
theorem once_mem {val : Nat → Str} {z : Str} : ∀ n, z ∈ onceL val n ↔ ∃ i, i < n ∧ val i = z
  | 0 => ⟨fun h => (nomatch h), fun ⟨_, h, _⟩ => absurd h (Nat.not_lt_zero _)⟩
  | n + 1 => by
    have ih := once_mem (val := val) (z := z) n
    have up : (∃ i, i < n ∧ val i = z) ∨ val n = z ↔ ∃ i, i < n + 1 ∧ val i = z := by
      constructor
      · rintro (⟨i, h, e⟩ | e)
        · exact ⟨i, by omega, e⟩
        · exact ⟨n, by omega, e⟩
      · rintro ⟨i, h, e⟩
        by_cases hi : i = n
        · exact .inr (hi ▸ e)
        · exact .inl ⟨i, by omega, e⟩
    rw [← up, ← ih, onceL_succ]
    unfold onceS
    split
    · rename_i h
      constructor
      · exact .inl
      · rintro (h' | e)
        · exact h'
        · exact e ▸ h
    · rw [List.mem_append, List.mem_singleton]
      constructor
      · rintro (h | h)
        · exact .inl h
        · exact .inr h.symm
      · rintro (h | h)
        · exact .inl h
        · exact .inr h.symm
theorem SortOf.of {ys zs : List Str} (p : ys.Perm (onceL (fun i => zs.getD i default) zs.length)) (s : sortedS ys = true) : SortOf ys zs := by
  refine ⟨s, p.symm.nodup (once_nd _), fun z => ?_⟩
  rw [p.mem_iff, once_mem]
  constructor
  · rintro ⟨i, hi, e⟩
    have e : zs.getD i default = z := e
    rw [List.getD_eq_getElem?_getD, List.getElem?_eq_getElem hi] at e
    exact e ▸ List.getElem_mem hi
  · intro h
    obtain ⟨i, hi, e⟩ := List.getElem_of_mem h
    exact ⟨i, hi, by show zs.getD i default = z; rw [List.getD_eq_getElem?_getD, List.getElem?_eq_getElem hi]; exact e⟩
end SH
namespace L2
open PySem PySem.Spec PyProof.Rows SH
section
variable {X : Cx} {p pos p' pos' : Pos} {e : Expr} {te : TE}
def tSortSet (K : PySem.W.Frag) (te : TE) : TE := fun σ H Q => te σ H fun x H1 => ∃ (q : Addr) (zs : List Str), x = .ref q ∧ SqL K H1 q (zs.map V.str) ∧ zs.length < 64 ∧ ∀ (l : Addr) (ys : List Str), H1 l = none → SortOf ys zs → Q (.ref l) (upd H1 l (.lst (ys.map V.str)))
end
end L2
namespace L2
open PySem PySem.Spec PyProof.Rows
section
variable {X : Cx}
def rIntT : List V → Hp → VK → Prop := fun xs H Q => ∃ n : Int, xs = [.str (Str.ofString (toString n))] ∧ 0 ≤ n ∧ n < 10 ^ 10 ∧ Q (.int n) H
theorem call_intT : CallR X (.type "int") rIntT := by
  intro pins s σ H xs us Q I r h
  obtain ⟨n, rfl, h0, h1, q⟩ := h
  obtain ⟨u, rfl, t, rfl⟩ := vals1 r
  exact PySem.W.KIN.call_num h0 h1 ⟨.int n, H, I.tok _, ⟨_, rfl⟩, q⟩
end
end L2
namespace L2
open PySem PySem.Spec PyProof.Rows
section
variable {X : Cx} {e : Expr} {c : Str} {b₀ : Stmt} {suite : List Stmt} {epos np hpos pos : Pos} {te : TX} {ts : TS} {cv : Value}
def exTryN (K : PySem.W.Frag) (cv : Value) (ts : TS) (D : Ends) (σ : St) : XK := fun cls _ H1 => PySem.W.exmOne K cls cv = some true ∧ ∀ ea, H1 ea = none → ts D σ (upd H1 ea (excO ea cls))
def tTryN (K : PySem.W.Frag) (cv : Value) (te : TX) (ts : TS) : TS := fun D σ H => te σ H (fun _ H1 => D.nx σ H1) (exTryN K cv ts D σ)
theorem landsN {pins : List (Addr × Obj)} {σ : St} {D : Ends} {ev : Value} {s' : Shared} (O : Own X) (hcl : ∀ (A : Around) (E : Value → Shared → Prop) (Q : Value → Shared → Prop) (pins : List (Addr × Obj)) (σ : St) (H : Hp) (s : Shared), Inv X pins σ H s → Q cv s → wpAny (model X.prog X.w) A (eval (.Name c np) X.env) Q E s)
    (hs : ∀ ea, PSs (X.suite ea) (b₀ :: suite) ts) (h : XP X pins σ (exTryN X.K cv ts D σ) ev s') :
    wpAny (model X.prog X.w) X.A (noteFrame ev X.env) (fun _ s₂ => wpAny (model X.prog X.w) X.A (setFlight ev none) (fun _ s₃ => wpAny (model X.prog X.w) X.A (handleBy ev X.env [.ExceptHandler (some (.Name c np)) none (b₀ :: suite) hpos]) (SP X pins D) X.xe s₃) X.xe s₂) X.xe s' := by
  obtain ⟨H, s0, I, ea, cls, H1, rfl, fl, hx, hE⟩ := h
  obtain ⟨B, a0, hfl, hok, h3, h4⟩ := id fl.fly
  have hst := hfl
  rw [O.stack] at hst
  have frs : X.A.frames = some (X.env :: X.outer) := by rw [← O.stack]; exact I.ok.frames
  have toI : ∀ {s1 : Shared}, Fly X.prog X.w X.stack H H1 s0 ea cls s1 → Inv X pins σ H1 s1 := fun {s1} g => I.call' (ch := []) g.os g.un g.hok g.bare fun _ z => nomatch z
  refine wpAny_looks_onW frs O.frame hst fun ha held sa => ?_
  refine wpAny_landsW held fun hb flb sb => ?_
  have sab := sa.trans sb
  rw [← O.stack] at flb
  have fB : Fly X.prog X.w X.stack H H1 s0 ea cls { s' with heap := hb } := fl.turn hfl hok h3 h4 flb sab
  have IB := toI fB
  obtain ⟨oe, vs, he, hc, hd⟩ := fB.at
  refine wpAny_handleBy_cons (codeAny_handlers_test (hcl _ _ _ pins σ H1 _ IB ?_)) (by intro q; cases q)
  have look : PySem.W.Looks (model X.prog X.w) hb (typeOf (.ref ea)) cls := hc ▸ (PySem.W.Looks.ld he).andThen .now
  refine (PySem.W.exm_one (M := model X.prog X.w) IB.kIn look hx).here ?_
  refine codeAny_handlers_suite ?_
  refine lands_againW (s := { s' with heap := hb }) flb fun hg flg sg => ?_
  have fG : Fly X.prog X.w X.stack H H1 s0 ea cls { s' with heap := hg } := fB.turn (s' := { s' with heap := hb }) flb hok h3 h4 flg sg
  have IG := toI fG
  obtain ⟨og, vg, eg, cg, dg⟩ := fG.at
  have fresh : X.s₀.heap.get? ea = none := by
    cases q : X.s₀.heap.get? ea with
    | none => rfl
    | some o =>
      obtain ⟨o', z⟩ := I.base.there ea o q (by rw [O.ex]; simp)
      rw [fl.new] at z; cases z
  have IT : Inv X pins σ (upd H1 ea (excO ea cls)) { s' with heap := hg } := by
    refine IG.track fG.free (excO_ok eg cg dg) fresh (fun z => ?_) (fun y cc q z => ?_) fun p hp z => ?_
    · obtain ⟨m, ⟨o, es, ep, ho, hdd, _⟩, _⟩ := IG.loc
      rw [← z, eg] at ho; cases ho
      rw [dg] at hdd; cases hdd
    · obtain ⟨v, o, ho, hdd⟩ := IG.cell y cc q
      rw [z, eg] at ho; cases ho
      rw [dg] at hdd; cases hdd
    · obtain ⟨q1, _⟩ := I.pin p hp
      rw [z, fl.new] at q1; cases q1
  refine wpAny_mono (hs ea pins _ _ _ D (IT.suite ea) (hE ea fG.free)) (fun fw s9 q9 => ?_) fun _ _ z => z.elim
  cases fw with
  | next => obtain ⟨σ9, H9, I9, q⟩ := q9; exact ⟨_, _, I9.unsuite I.ok.hd, q⟩
  | brk => obtain ⟨σ9, H9, I9, q⟩ := q9; exact ⟨_, _, I9.unsuite I.ok.hd, q⟩
  | cont => obtain ⟨σ9, H9, I9, q⟩ := q9; exact ⟨_, _, I9.unsuite I.ok.hd, q⟩
  | ret u => obtain ⟨v, σ9, H9, I9, r, q⟩ := q9; exact ⟨_, _, _, I9.unsuite I.ok.hd, r, q⟩
theorem ps_tryN (O : Own X) (hg : Gl X c) (hcv : X.mg c = some cv) (he : PEX X e te) (hs : ∀ ea, PSs (X.suite ea) (b₀ :: suite) ts) (hd : (c == ("__debug__" : Str)) = false := by decide)
    (hsw : swapsWith e none epos.line X.env = pure false := by rfl) : PS X (.Try [.Expr e epos] [.ExceptHandler (some (.Name c np)) none (b₀ :: suite) hpos] [] [] pos) (tTryN X.K cv te ts) := by
  intro pins s σ H D I h
  refine wpAny_Try_except ?_
  have hE := he pins s σ H _ _ I h
  refine wpAny_execs_cons (wpAny_Expr_any (wpAny_mono hE (fun v s1 ⟨x, H1, I1, r1, q1⟩ => ?_) fun ev s1 hx => ?_) I.quiet hsw)
  · exact wpAny_execs_nil (wpAny_execs_nil ⟨σ, H1, I1, q1⟩)
  · exact landsN O (fun A E Q pins σ H s J q => Calls.Name_function_global J.ok.kind hg (Calls.loadGlobal_global (by rw [J.ok.glob]; exact J.mod.glob.keeps J.bk) hcv q) hd) hs hx
end
end L2
namespace L2
open PySem PySem.Spec PyProof.Rows SH
section
variable {X : Cx}
def rMulT : R2 := fun x y H Q => ∃ z n, x = .str z ∧ y = .int n ∧ 1 ≤ z.length ∧ z.length ≤ 10 ∧ 0 ≤ n ∧ n ≤ 1000 ∧ Q (.str (Txt.mul z n)) H
theorem op_mulT : OpR X (binaryOp .Mult) rMulT := by
  intro pins s σ H x y v u Q I rx ry h
  obtain ⟨z, n, rfl, rfl, h1, h2, h0, h3, q⟩ := h
  obtain ⟨t, rfl⟩ := rx
  obtain ⟨t', rfl⟩ := ry
  have lz : ((z.length : Nat) : Int) ≤ 10 := by omega
  refine SB.mul ⟨?_, fun hn _ => ?_, fun hn _ => ?_⟩ fun t' k => ⟨.str _, H, I.tok _, ⟨_, rfl⟩, q⟩
  · rw [decide_eq_false (by omega), decide_eq_false (by omega)]
    rfl
  · have : 10 ≤ (2 ^ 63 - 1) / n := (Int.le_ediv_iff_mul_le (by omega)).mpr (by omega)
    omega
  · refine decide_eq_false (show ¬ _ > 2 ^ 24 from ?_)
    have : z.length * n.toNat ≤ 10 * 1000 := Nat.mul_le_mul h2 (by omega)
    first
      | omega
      | (rw [Nat.mul_comm]; omega)
theorem up_let : ∀ c ∈ LET.cps.toList, Unicode.upperOf c = [c - 32] := by decide +kernel
theorem upper_chs {z : Str} (h : markS z = true) : (Txt.upper z).cps.toList = z.cps.toList.map (· - 32) := by
  have hl : ∀ c ∈ z.cps.toList, c ∈ LET.cps.toList := fun c hc => letC_iff.mp ((mark_all h).2.2 c hc)
  show ((z.cps.mapIdx fun i c => (Unicode.upperOf c).toArray).flatten).toList = _
  have e : z.cps.mapIdx (fun i c => (Unicode.upperOf c).toArray) = z.cps.map fun c => #[c - 32] := by
    apply Array.ext
    · simp
    · intro i h1 h2
      simp only [Array.getElem_mapIdx, Array.getElem_map]
      rw [up_let _ (hl _ (Array.getElem_mem_toList ..))]
  rw [e]
  simp only [Array.toList_flatten, Array.toList_map, List.map_map]
  generalize z.cps.toList = l
  induction l with
  | nil => rfl
  | cons x r ih =>
    rw [List.map_cons, List.flatten_cons, ih]
    rfl
def rUpper : V → List V → Hp → VK → Prop := fun x vs H Q => ∃ z, x = .str z ∧ vs = [] ∧ markS z = true ∧ Q (.str (Txt.upper z)) H
theorem mt_upper : MtM X "str.upper" rUpper := by
  intro pins s σ H x vs v us Q I rx rv h
  obtain ⟨z, rfl, rfl, hm, q⟩ := h
  obtain ⟨t, rfl⟩ := rx
  cases rv
  have l : (Txt.upper z).length = z.length := by
    have := congrArg List.length (upper_chs hm)
    rw [List.length_map] at this
    simpa [Str.length] using this
  have := (mark_all hm).2.1
  exact SC.upper (by rw [l]; exact decide_eq_false (show ¬ z.length > 2 ^ 24 by omega)) ⟨.str _, H, I.tok _, ⟨_, rfl⟩, q⟩
end
end L2
namespace L2
open PySem PySem.Spec PyProof.Rows
section
variable {X : Cx}
def rIsiX (K : PySem.W.Frag) : List V → Hp → VK → Prop := fun xs H Q => ∃ a D c b, xs = [.ref a, c] ∧ H a = some (excO a (.ref D)) ∧ ExcLk K D ∧ (∃ cv, RelV c cv ∧ PySem.W.kitOne K (.ref D) cv = some b) ∧ Q (.bl b) H
theorem call_isiX2 : CallR X (.builtin "isinstance") (rIsiX X.K) := call_isiX
end
end L2
namespace K14
open PySem L2 SH
local macro_rules | `(tactic| and_intros) => `(tactic| simp only [rExtend, rSetL, gSub, iRng3, tSeq, tNext, tRet, tRetN, tAsg, tIfS, tDrop, tVar, tC, tOp, tUn, rI0, rI, rU, rEq, rNe, tTest, tB, tCB, tCons, tNil, tLst, tTup, tSl, tNoPart, tPart, rSlS, rSlL, rIxL, rIxT, rIxS, tCall, tMeth, tMake, tAnd, tOr, tNot, tAndV, tOrV, tNotV, tIf, tChain, gName, tFld, sFld, tBM, tBM0, rAppend, rInsert, tRaise, tNever, CDiv, CMul, L2.start, scal_ii, scal_ss, scal_bb, cxOf, cxOfN, Cx.suite, Cx.comp, rLenL, rLenT, rListL, rListT, rTupL, rTupT, rIsiT, iRng1, iRng2, iList, iTup, iStr, gTup, gCons, gNil, iEnumT, iZipT, tDIn, rDictP, rRange1, rRange2, rListR, rTupF, tCountF, rCountT, tAug, ipI, rSlT, rSlTa, iTup, rCatT, rCat, rPop, rInD, rCount, rJoin, tSortSet, rReverse, sFldAug, rAdd, rIntT, rUpper, rMulT, List.set_cons_zero, List.set_cons_succ, List.getElem?_cons_zero, List.getElem?_cons_succ, List.map_cons, List.map_nil, List.length_cons, List.length_nil, List.replicate_succ, List.replicate_zero, Nat.reduceSub, Nat.reduceAdd, List.cons_append, List.nil_append, List.append_nil, V.int.injEq, V.str.injEq, V.bl.injEq, V.ref.injEq, V.ty.injEq, Option.some.injEq, List.cons.injEq, exists_eq_left', exists_eq_left, exists_eq_right, exists_eq_right', exists_and_left, exists_and_right, and_true, true_and, and_assoc, decide_eq_true_eq, Bool.not_eq_true', decide_eq_false_iff_not, Bool.not_true, Bool.not_false, Bool.false_eq_true, if_false, if_true, eq_self, Bool.not_eq_true, Bool.true_eq_false, reduceCtorEq, false_and, exists_false, exists_const, List.reduceReplicate, Int.reduceLT, Int.reduceLE, Nat.reduceLT, Nat.reduceLeDiff, Int.reduceNeg, List.getElem?_nil, Option.join_some, Option.join_none, List.set_nil, ite_self, not_true_eq_false, not_false_eq_true])
def top (i : Nat) : Stmt := PySem.Challenge.pw_shrinkhouse_k14_no_faults.main.body.getD i (.Pass ⟨0, 0, 0, 0⟩)
abbrev s_written : Stmt := top 8
abbrev s_Has_init : Stmt := inClass (top 11) 0
abbrev s_Has_shown : Stmt := inClass (top 11) 3
abbrev s_Many_init : Stmt := inClass (top 12) 0
abbrev s_Many_shown : Stmt := inClass (top 12) 3
abbrev s_Pair_init : Stmt := inClass (top 13) 0
abbrev s_Before_shown : Stmt := inClass (top 14) 1
abbrev s_Under_shown : Stmt := inClass (top 15) 1
abbrev s_Beside_shown : Stmt := inClass (top 16) 1
abbrev s_Joint_init : Stmt := inClass (top 17) 0
abbrev s_All_shown : Stmt := inClass (top 18) 1
abbrev s_Any_shown : Stmt := inClass (top 19) 1
abbrev s_Not_init : Stmt := inClass (top 20) 0
abbrev s_Not_shown : Stmt := inClass (top 20) 3
abbrev s_is_mark : Stmt := top 24
abbrev s_pair_fault : Stmt := top 32
abbrev s_Reader_init : Stmt := inClass (top 33) 0
abbrev s_Reader_is_at_end : Stmt := inClass (top 33) 1
abbrev s_Reader_is_at : Stmt := inClass (top 33) 2
abbrev s_Reader_read_sign : Stmt := inClass (top 33) 3
abbrev s_Reader_read_run : Stmt := inClass (top 33) 4
abbrev s_Reader_read_mark : Stmt := inClass (top 33) 5
abbrev s_Reader_read_number : Stmt := inClass (top 33) 6
abbrev s_Reader_read_next : Stmt := inClass (top 33) 7
abbrev s_Reader_read_inside : Stmt := inClass (top 33) 8
abbrev s_Reader_read_many : Stmt := inClass (top 33) 9
abbrev s_Reader_read_pair : Stmt := inClass (top 33) 10
abbrev s_Reader_read_parts : Stmt := inClass (top 33) 11
abbrev s_read_fault : Stmt := top 34
abbrev s__law_cell_at : Stmt := top 36
abbrev s__law_names : Stmt := top 37
abbrev s__law_leaf : Stmt := top 38
abbrev s__law_term : Stmt := top 39
abbrev s__law_text : Stmt := top 40
abbrev s__law_refused : Stmt := top 41
abbrev s__law_wide : Stmt := top 42
abbrev s__law_plain_odd : Stmt := top 43
abbrev s__law_group_odd : Stmt := top 44
abbrev s__law_odd : Stmt := top 45
abbrev s_law : Stmt := top 46
theorem sc_written : FnScope ["word", "inside"] ["word", "inside"] (defScope s_written) := ⟨rfl, rfl, rfl, by decide +kernel, rfl, by decide +kernel, by decide +kernel⟩
theorem sc_Has_init : FnScope ["self", "mark"] ["self", "mark"] (defScope s_Has_init) := ⟨rfl, rfl, rfl, by decide +kernel, rfl, by decide +kernel, by decide +kernel⟩
theorem sc_Has_shown : FnScope ["self"] ["self"] (defScope s_Has_shown) := ⟨rfl, rfl, rfl, by decide +kernel, rfl, by decide +kernel, by decide +kernel⟩
theorem sc_Many_init : FnScope ["self", "number", "mark"] ["self", "number", "mark"] (defScope s_Many_init) := ⟨rfl, rfl, rfl, by decide +kernel, rfl, by decide +kernel, by decide +kernel⟩
theorem sc_Many_shown : FnScope ["self"] ["self"] (defScope s_Many_shown) := ⟨rfl, rfl, rfl, by decide +kernel, rfl, by decide +kernel, by decide +kernel⟩
theorem sc_Pair_init : FnScope ["self", "one", "other"] ["self", "one", "other"] (defScope s_Pair_init) := ⟨rfl, rfl, rfl, by decide +kernel, rfl, by decide +kernel, by decide +kernel⟩
theorem sc_Before_shown : FnScope ["self"] ["self"] (defScope s_Before_shown) := ⟨rfl, rfl, rfl, by decide +kernel, rfl, by decide +kernel, by decide +kernel⟩
theorem sc_Under_shown : FnScope ["self"] ["self"] (defScope s_Under_shown) := ⟨rfl, rfl, rfl, by decide +kernel, rfl, by decide +kernel, by decide +kernel⟩
theorem sc_Beside_shown : FnScope ["self"] ["self"] (defScope s_Beside_shown) := ⟨rfl, rfl, rfl, by decide +kernel, rfl, by decide +kernel, by decide +kernel⟩
theorem sc_Joint_init : FnScope ["self", "parts"] ["self", "parts"] (defScope s_Joint_init) := ⟨rfl, rfl, rfl, by decide +kernel, rfl, by decide +kernel, by decide +kernel⟩
theorem sc_All_shown : FnScope ["self"] ["self"] (defScope s_All_shown) := ⟨rfl, rfl, rfl, by decide +kernel, rfl, by decide +kernel, by decide +kernel⟩
theorem sc_Any_shown : FnScope ["self"] ["self"] (defScope s_Any_shown) := ⟨rfl, rfl, rfl, by decide +kernel, rfl, by decide +kernel, by decide +kernel⟩
theorem sc_Not_init : FnScope ["self", "part"] ["self", "part"] (defScope s_Not_init) := ⟨rfl, rfl, rfl, by decide +kernel, rfl, by decide +kernel, by decide +kernel⟩
theorem sc_Not_shown : FnScope ["self"] ["self"] (defScope s_Not_shown) := ⟨rfl, rfl, rfl, by decide +kernel, rfl, by decide +kernel, by decide +kernel⟩
theorem sc_is_mark : FnScope ["thing"] ["thing"] (defScope s_is_mark) := ⟨rfl, rfl, rfl, by decide +kernel, rfl, by decide +kernel, by decide +kernel⟩
theorem sc_pair_fault : FnScope ["word", "one", "other"] ["word", "one", "other"] (defScope s_pair_fault) := ⟨rfl, rfl, rfl, by decide +kernel, rfl, by decide +kernel, by decide +kernel⟩
theorem sc_Reader_init : FnScope ["self", "text"] ["self", "text"] (defScope s_Reader_init) := ⟨rfl, rfl, rfl, by decide +kernel, rfl, by decide +kernel, by decide +kernel⟩
theorem sc_Reader_is_at_end : FnScope ["self"] ["self"] (defScope s_Reader_is_at_end) := ⟨rfl, rfl, rfl, by decide +kernel, rfl, by decide +kernel, by decide +kernel⟩
theorem sc_Reader_is_at : FnScope ["self", "sign"] ["self", "sign"] (defScope s_Reader_is_at) := ⟨rfl, rfl, rfl, by decide +kernel, rfl, by decide +kernel, by decide +kernel⟩
theorem sc_Reader_read_sign : FnScope ["self", "sign"] ["self", "sign"] (defScope s_Reader_read_sign) := ⟨rfl, rfl, rfl, by decide +kernel, rfl, by decide +kernel, by decide +kernel⟩
theorem sc_Reader_read_run : FnScope ["self", "signs", "start"] ["self", "signs"] (defScope s_Reader_read_run) := ⟨rfl, rfl, rfl, by decide +kernel, rfl, by decide +kernel, by decide +kernel⟩
theorem sc_Reader_read_mark : FnScope ["self", "mark"] ["self"] (defScope s_Reader_read_mark) := ⟨rfl, rfl, rfl, by decide +kernel, rfl, by decide +kernel, by decide +kernel⟩
theorem sc_Reader_read_number : FnScope ["self", "figures"] ["self"] (defScope s_Reader_read_number) := ⟨rfl, rfl, rfl, by decide +kernel, rfl, by decide +kernel, by decide +kernel⟩
theorem sc_Reader_read_next : FnScope ["self", "deep", "word", "fault"] ["self", "deep"] (defScope s_Reader_read_next) := ⟨rfl, rfl, rfl, by decide +kernel, rfl, by decide +kernel, by decide +kernel⟩
theorem sc_Reader_read_inside : FnScope ["self", "word", "deep"] ["self", "word", "deep"] (defScope s_Reader_read_inside) := ⟨rfl, rfl, rfl, by decide +kernel, rfl, by decide +kernel, by decide +kernel⟩
theorem sc_Reader_read_many : FnScope ["self", "number"] ["self"] (defScope s_Reader_read_many) := ⟨rfl, rfl, rfl, by decide +kernel, rfl, by decide +kernel, by decide +kernel⟩
theorem sc_Reader_read_pair : FnScope ["self", "word", "one"] ["self", "word"] (defScope s_Reader_read_pair) := ⟨rfl, rfl, rfl, by decide +kernel, rfl, by decide +kernel, by decide +kernel⟩
theorem sc_Reader_read_parts : FnScope ["self", "deep", "parts"] ["self", "deep"] (defScope s_Reader_read_parts) := ⟨rfl, rfl, rfl, by decide +kernel, rfl, by decide +kernel, by decide +kernel⟩
theorem sc_read_fault : FnScope ["text", "reader", "fault"] ["text"] (defScope s_read_fault) := ⟨rfl, rfl, rfl, by decide +kernel, rfl, by decide +kernel, by decide +kernel⟩
theorem sc__law_cell_at : FnScope ["_law_script", "_law_k"] ["_law_script", "_law_k"] (defScope s__law_cell_at) := ⟨rfl, rfl, rfl, by decide +kernel, rfl, by decide +kernel, by decide +kernel⟩
theorem sc__law_names : FnScope ["_law_cell", "_law_many", "_law_letters", "_law_size", "_law_at", "_law_found", "_law_rest", "_law_k", "_law_name", "_law_more", "_law_j", "_law_place"] ["_law_cell", "_law_many"] (defScope s__law_names) := ⟨rfl, rfl, rfl, by decide +kernel, rfl, by decide +kernel, by decide +kernel⟩
theorem sc__law_leaf : FnScope ["_law_cell", "_law_names_here", "_law_one", "_law_other", "_law_word"] ["_law_cell", "_law_names_here"] (defScope s__law_leaf) := ⟨rfl, rfl, rfl, by decide +kernel, rfl, by decide +kernel, by decide +kernel⟩
theorem sc__law_term : FnScope ["_law_script", "_law_begin", "_law_many", "_law_names_here", "_law_stack", "_law_k", "_law_cell", "_law_way", "_law_size"] ["_law_script", "_law_begin", "_law_many", "_law_names_here"] (defScope s__law_term) := ⟨rfl, rfl, rfl, by decide +kernel, rfl, by decide +kernel, by decide +kernel⟩
theorem sc__law_text : FnScope ["_law_term_here"] ["_law_term_here"] (defScope s__law_text) := ⟨rfl, rfl, rfl, by decide +kernel, rfl, by decide +kernel, by decide +kernel⟩
theorem sc__law_refused : FnScope ["_law_text_here", "_law_refused_here", "e", "_law_others"] ["_law_text_here"] (defScope s__law_refused) := ⟨rfl, rfl, rfl, by decide +kernel, rfl, by decide +kernel, by decide +kernel⟩
theorem sc__law_wide : FnScope ["_law_one", "_law_many", "_law_six", "_law_last"] ["_law_one", "_law_many"] (defScope s__law_wide) := ⟨rfl, rfl, rfl, by decide +kernel, rfl, by decide +kernel, by decide +kernel⟩
theorem sc__law_plain_odd : FnScope ["_law_a", "_law_b", "_law_some"] ["_law_a", "_law_b"] (defScope s__law_plain_odd) := ⟨rfl, rfl, rfl, by decide +kernel, rfl, by decide +kernel, by decide +kernel⟩
theorem sc__law_group_odd : FnScope ["_law_a", "_law_b", "_law_one", "_law_two", "_law_some"] ["_law_a", "_law_b"] (defScope s__law_group_odd) := ⟨rfl, rfl, rfl, by decide +kernel, rfl, by decide +kernel, by decide +kernel⟩
theorem sc__law_odd : FnScope ["_law_script", "_law_cell", "_law_names_here", "_law_some", "_law_text_here", "_law_at", "_law_sign"] ["_law_script", "_law_cell", "_law_names_here"] (defScope s__law_odd) := ⟨rfl, rfl, rfl, by decide +kernel, rfl, by decide +kernel, by decide +kernel⟩
theorem sc_law : FnScope ["_law_script", "_law_names_here", "_law_one", "_law_k", "_law_deep", "_law_wide_here"] ["_law_script"] (defScope s_law) := ⟨rfl, rfl, rfl, by decide +kernel, rfl, by decide +kernel, by decide +kernel⟩
structure Adr where
  ShrinkError : Addr
  NoThing : Addr
  NoFault : Addr
  NoText : Addr
  NoRow : Addr
  Fault : Addr
  Has : Addr
  Many : Addr
  Pair : Addr
  Before : Addr
  Under : Addr
  Beside : Addr
  Joint : Addr
  All : Addr
  Any : Addr
  Not : Addr
  Reader : Addr
structure Txt (K : PySem.W.Frag) (mg : Str → Option Value) (ad : Adr) : Prop where
  ValueError : mg "ValueError" = none
  all : mg "all" = none
  int : mg "int" = none
  isinstance : mg "isinstance" = none
  len : mg "len" = none
  min : mg "min" = none
  range : mg "range" = none
  str : mg "str" = none
  tuple : mg "tuple" = none
  c_ShrinkError : mg "ShrinkError" = some (.ref ad.ShrinkError)
  c_NoThing : mg "NoThing" = some (.ref ad.NoThing)
  c_NoFault : mg "NoFault" = some (.ref ad.NoFault)
  c_NoText : mg "NoText" = some (.ref ad.NoText)
  c_NoRow : mg "NoRow" = some (.ref ad.NoRow)
  c_Fault : mg "Fault" = some (.ref ad.Fault)
  c_Has : mg "Has" = some (.ref ad.Has)
  c_Many : mg "Many" = some (.ref ad.Many)
  c_Pair : mg "Pair" = some (.ref ad.Pair)
  c_Before : mg "Before" = some (.ref ad.Before)
  c_Under : mg "Under" = some (.ref ad.Under)
  c_Beside : mg "Beside" = some (.ref ad.Beside)
  c_Joint : mg "Joint" = some (.ref ad.Joint)
  c_All : mg "All" = some (.ref ad.All)
  c_Any : mg "Any" = some (.ref ad.Any)
  c_Not : mg "Not" = some (.ref ad.Not)
  c_Reader : mg "Reader" = some (.ref ad.Reader)
  g_LETTERS : ∃ t, mg "LETTERS" = some (.str LET t)
  g_LONGEST_MARK : ∃ t, mg "LONGEST_MARK" = some (.int 8 t)
  g_FIGURES : ∃ t, mg "FIGURES" = some (.str "0123456789" t)
  g_MOST_FIGURES : ∃ t, mg "MOST_FIGURES" = some (.int 9 t)
  g_FEWEST_PARTS : ∃ t, mg "FEWEST_PARTS" = some (.int 2 t)
  g_MOST_PARTS : ∃ t, mg "MOST_PARTS" = some (.int 6 t)
  g_DEEPEST : ∃ t, mg "DEEPEST" = some (.int 8 t)
  g_MOST_FAULTS : ∃ t, mg "MOST_FAULTS" = some (.int 60 t)
  e_NoFault : ExcCls K mg "NoFault" ad.NoFault
  lk_NoFault : ExcLk K ad.NoFault
  exm_NoFault_NoFault : PySem.W.exmOne K (.ref ad.NoFault) (.ref ad.NoFault) = some true
  exm_NoFault_ShrinkError : PySem.W.exmOne K (.ref ad.NoFault) (.ref ad.ShrinkError) = some true
  kx_NoFault_NoRow : PySem.W.kitOne K (.ref ad.NoFault) (.ref ad.NoRow) = some false
  kx_NoFault_NoText : PySem.W.kitOne K (.ref ad.NoFault) (.ref ad.NoText) = some false
  kx_NoFault_NoThing : PySem.W.kitOne K (.ref ad.NoFault) (.ref ad.NoThing) = some false
  kx_NoFault_ValueError : PySem.W.kitOne K (.ref ad.NoFault) (.type "ValueError") = some true
  cl_All : Cls K ad.All
  na_All_parts : NoAttr K ad.All "parts"
  ha_All : PySem.W.findIn K (.ref ad.All) "__class__" = some (some (.builtin "object.__class__"))
  hm_All : PySem.W.mroIn K ad.All (.type "object") = some true
  cl_Any : Cls K ad.Any
  na_Any_parts : NoAttr K ad.Any "parts"
  ha_Any : PySem.W.findIn K (.ref ad.Any) "__class__" = some (some (.builtin "object.__class__"))
  hm_Any : PySem.W.mroIn K ad.Any (.type "object") = some true
  cl_Before : Cls K ad.Before
  na_Before_one : NoAttr K ad.Before "one"
  na_Before_other : NoAttr K ad.Before "other"
  ha_Before : PySem.W.findIn K (.ref ad.Before) "__class__" = some (some (.builtin "object.__class__"))
  hm_Before : PySem.W.mroIn K ad.Before (.type "object") = some true
  cl_Beside : Cls K ad.Beside
  na_Beside_one : NoAttr K ad.Beside "one"
  na_Beside_other : NoAttr K ad.Beside "other"
  ha_Beside : PySem.W.findIn K (.ref ad.Beside) "__class__" = some (some (.builtin "object.__class__"))
  hm_Beside : PySem.W.mroIn K ad.Beside (.type "object") = some true
  cl_Has : Cls K ad.Has
  na_Has_mark : NoAttr K ad.Has "mark"
  ha_Has : PySem.W.findIn K (.ref ad.Has) "__class__" = some (some (.builtin "object.__class__"))
  hm_Has : PySem.W.mroIn K ad.Has (.type "object") = some true
  cl_Many : Cls K ad.Many
  na_Many_mark : NoAttr K ad.Many "mark"
  na_Many_number : NoAttr K ad.Many "number"
  ha_Many : PySem.W.findIn K (.ref ad.Many) "__class__" = some (some (.builtin "object.__class__"))
  hm_Many : PySem.W.mroIn K ad.Many (.type "object") = some true
  cl_Not : Cls K ad.Not
  na_Not_part : NoAttr K ad.Not "part"
  ha_Not : PySem.W.findIn K (.ref ad.Not) "__class__" = some (some (.builtin "object.__class__"))
  hm_Not : PySem.W.mroIn K ad.Not (.type "object") = some true
  cl_Reader : Cls K ad.Reader
  na_Reader_at : NoAttr K ad.Reader "at"
  na_Reader_met : NoAttr K ad.Reader "met"
  na_Reader_text : NoAttr K ad.Reader "text"
  ha_Reader : PySem.W.findIn K (.ref ad.Reader) "__class__" = some (some (.builtin "object.__class__"))
  hm_Reader : PySem.W.mroIn K ad.Reader (.type "object") = some true
  cl_Under : Cls K ad.Under
  na_Under_one : NoAttr K ad.Under "one"
  na_Under_other : NoAttr K ad.Under "other"
  ha_Under : PySem.W.findIn K (.ref ad.Under) "__class__" = some (some (.builtin "object.__class__"))
  hm_Under : PySem.W.mroIn K ad.Under (.type "object") = some true
  hn : PySem.W.specialIn K (.builtin "object.__class__") "__get__" = some (some (.builtin "getset_descriptor.__get__"))
  htk : PySem.W.takesIn K (.builtin "object.__class__") = some true
inductive Tm where
  | has (m : Str)
  | many (k : Int) (m : Str)
  | pair (w a b : Str)
  | joint (b : Bool) (ps : List Tm)
  | not (p : Tm)
def wJ (b : Bool) : Str := if b then "all" else "any"
mutual
def dpT : Tm → Nat
  | .has _ => 0
  | .many _ _ => 0
  | .pair _ _ _ => 0
  | .joint _ ps => dpL ps + 1
  | .not p => dpT p + 1
def dpL : List Tm → Nat
  | [] => 0
  | p :: ps => max (dpT p) (dpL ps)
end
def pairW (w : Str) : Prop := w = "before" ∨ w = "under" ∨ w = "beside"
mutual
def okT : Tm → Prop
  | .has m => markS m = true
  | .many k m => k.natAbs.log2 < 1920 ∧ markS m = true
  | .pair w a b => pairW w ∧ markS a = true ∧ markS b = true
  | .joint _ ps => (1 ≤ ps.length ∧ ps.length ≤ 10) ∧ okL ps
  | .not p => okT p
def okL : List Tm → Prop
  | [] => True
  | p :: ps => okT p ∧ okL ps
end
mutual
def TmAt (H : Hp) : V → Tm → Prop
  | v, .has m => ∃ a, v = .ref a ∧ H a = some (.tup [.str "has", .str m])
  | v, .many k m => ∃ a, v = .ref a ∧ H a = some (.tup [.str "many", .int k, .str m])
  | v, .pair w x y => ∃ a, v = .ref a ∧ H a = some (.tup [.str w, .str x, .str y])
  | v, .joint b ps => ∃ a xs, v = .ref a ∧ H a = some (.tup (.str (wJ b) :: xs)) ∧ TmsAt H xs ps
  | v, .not p => ∃ a x, v = .ref a ∧ H a = some (.tup [.str "not", x]) ∧ TmAt H x p
def TmsAt (H : Hp) : List V → List Tm → Prop
  | [], [] => True
  | x :: xs, p :: ps => TmAt H x p ∧ TmsAt H xs ps
  | [], _ :: _ => False
  | _ :: _, [] => False
end
def clsP (ad : Adr) (w : Str) : Addr := if w = "before" then ad.Before else if w = "under" then ad.Under else ad.Beside
def clsJ (ad : Adr) (b : Bool) : Addr := if b then ad.All else ad.Any
mutual
def FtAt (ad : Adr) (H : Hp) : V → Tm → Prop
  | v, .has m => ∃ a dx, v = .ref a ∧ H a = some (.ins ad.Has dx [("mark", .str m)])
  | v, .many k m => ∃ a dx, v = .ref a ∧ H a = some (.ins ad.Many dx [("number", .int k), ("mark", .str m)])
  | v, .pair w x y => ∃ a dx, v = .ref a ∧ H a = some (.ins (clsP ad w) dx [("one", .str x), ("other", .str y)])
  | v, .joint b ps => ∃ a dx t xs, v = .ref a ∧ H a = some (.ins (clsJ ad b) dx [("parts", .ref t)]) ∧ H t = some (.tup xs) ∧ FtsAt ad H xs ps
  | v, .not p => ∃ a dx x, v = .ref a ∧ H a = some (.ins ad.Not dx [("part", x)]) ∧ FtAt ad H x p
def FtsAt (ad : Adr) (H : Hp) : List V → List Tm → Prop
  | [], [] => True
  | x :: xs, p :: ps => FtAt ad H x p ∧ FtsAt ad H xs ps
  | [], _ :: _ => False
  | _ :: _, [] => False
end
mutual
theorem TmAt.tups {H H' : Hp} (s : ∀ b ys, H b = some (.tup ys) → H' b = some (.tup ys)) : ∀ {v : V} {tm : Tm}, TmAt H v tm → TmAt H' v tm
  | _, .has _, h => by unfold TmAt at h ⊢; obtain ⟨a, e, h⟩ := h; exact ⟨a, e, s _ _ h⟩
  | _, .many _ _, h => by unfold TmAt at h ⊢; obtain ⟨a, e, h⟩ := h; exact ⟨a, e, s _ _ h⟩
  | _, .pair _ _ _, h => by unfold TmAt at h ⊢; obtain ⟨a, e, h⟩ := h; exact ⟨a, e, s _ _ h⟩
  | _, .joint _ _, h => by unfold TmAt at h ⊢; obtain ⟨a, xs, e, h, r⟩ := h; exact ⟨a, xs, e, s _ _ h, TmsAt.tups s r⟩
  | _, .not _, h => by unfold TmAt at h ⊢; obtain ⟨a, x, e, h, r⟩ := h; exact ⟨a, x, e, s _ _ h, TmAt.tups s r⟩
theorem TmsAt.tups {H H' : Hp} (s : ∀ b ys, H b = some (.tup ys) → H' b = some (.tup ys)) : ∀ {vs : List V} {ps : List Tm}, TmsAt H vs ps → TmsAt H' vs ps
  | [], [], _ => by unfold TmsAt; trivial
  | _ :: _, _ :: _, h => by unfold TmsAt at h ⊢; exact ⟨TmAt.tups s h.1, TmsAt.tups s h.2⟩
  | [], _ :: _, h => by unfold TmsAt at h; exact h.elim
  | _ :: _, [], h => by unfold TmsAt at h; exact h.elim
end
theorem TmAt.same {H H' : Hp} (s : Same H H') {v : V} {tm : Tm} (h : TmAt H v tm) : TmAt H' v tm := h.tups fun b ys e => s b _ e
theorem TmsAt.same {H H' : Hp} (s : Same H H') {vs : List V} {ps : List Tm} (h : TmsAt H vs ps) : TmsAt H' vs ps := h.tups fun b ys e => s b _ e
theorem lst_tups {H : Hp} {p : Addr} {xs : List V} {o : HO} (h : H p = some (.lst xs)) : ∀ b ys, H b = some (.tup ys) → upd H p o b = some (.tup ys) := fun b ys e => by
  rw [upd_ne fun q => by rw [q, h] at e; cases e]
  exact e
theorem TmsAt.take {H : Hp} : ∀ {vs : List V} {ps : List Tm} (i : Nat), TmsAt H vs ps → TmsAt H (vs.take i) (ps.take i)
  | [], [], i, h => by rw [List.take_nil, List.take_nil]; exact h
  | x :: xs, p :: ps, 0, _ => by show TmsAt H [] []; unfold TmsAt; trivial
  | x :: xs, p :: ps, i + 1, h => by
    show TmsAt H (x :: xs.take i) (p :: ps.take i)
    unfold TmsAt at h ⊢
    exact ⟨h.1, TmsAt.take i h.2⟩
  | [], _ :: _, _, h => by unfold TmsAt at h; exact h.elim
  | _ :: _, [], _, h => by unfold TmsAt at h; exact h.elim
theorem TmsAt.drop {H : Hp} : ∀ {vs : List V} {ps : List Tm} (i : Nat), TmsAt H vs ps → TmsAt H (vs.drop i) (ps.drop i)
  | [], [], i, h => by rw [List.drop_nil, List.drop_nil]; exact h
  | x :: xs, p :: ps, 0, h => h
  | x :: xs, p :: ps, i + 1, h => by
    show TmsAt H (xs.drop i) (ps.drop i)
    unfold TmsAt at h
    exact TmsAt.drop i h.2
  | [], _ :: _, _, h => by unfold TmsAt at h; exact h.elim
  | _ :: _, [], _, h => by unfold TmsAt at h; exact h.elim
mutual
theorem FtAt.same {ad : Adr} {H H' : Hp} (s : Same H H') : ∀ {v : V} {tm : Tm}, FtAt ad H v tm → FtAt ad H' v tm
  | _, .has _, h => by unfold FtAt at h ⊢; obtain ⟨a, dx, e, h⟩ := h; exact ⟨a, dx, e, s _ _ h⟩
  | _, .many _ _, h => by unfold FtAt at h ⊢; obtain ⟨a, dx, e, h⟩ := h; exact ⟨a, dx, e, s _ _ h⟩
  | _, .pair _ _ _, h => by unfold FtAt at h ⊢; obtain ⟨a, dx, e, h⟩ := h; exact ⟨a, dx, e, s _ _ h⟩
  | _, .joint _ _, h => by unfold FtAt at h ⊢; obtain ⟨a, dx, t, xs, e, h, h2, r⟩ := h; exact ⟨a, dx, t, xs, e, s _ _ h, s _ _ h2, FtsAt.same s r⟩
  | _, .not _, h => by unfold FtAt at h ⊢; obtain ⟨a, dx, x, e, h, r⟩ := h; exact ⟨a, dx, x, e, s _ _ h, FtAt.same s r⟩
theorem FtsAt.same {ad : Adr} {H H' : Hp} (s : Same H H') : ∀ {vs : List V} {ps : List Tm}, FtsAt ad H vs ps → FtsAt ad H' vs ps
  | [], [], _ => by unfold FtsAt; trivial
  | _ :: _, _ :: _, h => by unfold FtsAt at h ⊢; exact ⟨FtAt.same s h.1, FtsAt.same s h.2⟩
  | [], _ :: _, h => by unfold FtsAt at h; exact h.elim
  | _ :: _, [], h => by unfold FtsAt at h; exact h.elim
end
theorem TmsAt.get {H : Hp} : ∀ {vs : List V} {ps : List Tm} {i : Nat} {v : V}, TmsAt H vs ps → vs[i]? = some v → ∃ p, ps[i]? = some p ∧ TmAt H v p
  | x :: xs, p :: ps, 0, v, h, e => by unfold TmsAt at h; cases e; exact ⟨p, rfl, h.1⟩
  | x :: xs, p :: ps, i + 1, v, h, e => by unfold TmsAt at h; exact TmsAt.get (vs := xs) (ps := ps) (i := i) h.2 (show xs[i]? = some v from e)
  | [], _, i, v, h, e => by simp at e
  | _ :: _, [], i, v, h, e => by unfold TmsAt at h; exact h.elim
theorem TmsAt.length {H : Hp} : ∀ {vs : List V} {ps : List Tm}, TmsAt H vs ps → vs.length = ps.length
  | [], [], _ => rfl
  | x :: xs, p :: ps, h => by unfold TmsAt at h; rw [List.length_cons, List.length_cons, TmsAt.length h.2]
  | [], _ :: _, h => by unfold TmsAt at h; exact h.elim
  | _ :: _, [], h => by unfold TmsAt at h; exact h.elim
theorem TmsAt.snoc {H : Hp} : ∀ {vs : List V} {ps : List Tm} {v : V} {p : Tm}, TmsAt H vs ps → TmAt H v p → TmsAt H (vs ++ [v]) (ps ++ [p])
  | [], [], v, p, _, h => by show TmsAt H [v] [p]; unfold TmsAt; exact ⟨h, by unfold TmsAt; trivial⟩
  | x :: xs, q :: ps, v, p, h, h2 => by
    show TmsAt H (x :: (xs ++ [v])) (q :: (ps ++ [p]))
    unfold TmsAt at h ⊢
    exact ⟨h.1, TmsAt.snoc h.2 h2⟩
  | [], _ :: _, _, _, h, _ => by unfold TmsAt at h; exact h.elim
  | _ :: _, [], _, _, h, _ => by unfold TmsAt at h; exact h.elim
theorem FtsAt.get {ad : Adr} {H : Hp} : ∀ {vs : List V} {ps : List Tm} {i : Nat} {v : V}, FtsAt ad H vs ps → vs[i]? = some v → ∃ p, ps[i]? = some p ∧ FtAt ad H v p
  | x :: xs, p :: ps, 0, v, h, e => by unfold FtsAt at h; cases e; exact ⟨p, rfl, h.1⟩
  | x :: xs, p :: ps, i + 1, v, h, e => by unfold FtsAt at h; exact FtsAt.get (vs := xs) (ps := ps) (i := i) h.2 (show xs[i]? = some v from e)
  | [], _, i, v, h, e => by simp at e
  | _ :: _, [], i, v, h, e => by unfold FtsAt at h; exact h.elim
theorem FtsAt.length {ad : Adr} {H : Hp} : ∀ {vs : List V} {ps : List Tm}, FtsAt ad H vs ps → vs.length = ps.length
  | [], [], _ => rfl
  | x :: xs, p :: ps, h => by unfold FtsAt at h; rw [List.length_cons, List.length_cons, FtsAt.length h.2]
  | [], _ :: _, h => by unfold FtsAt at h; exact h.elim
  | _ :: _, [], h => by unfold FtsAt at h; exact h.elim
theorem FtsAt.snoc {ad : Adr} {H : Hp} : ∀ {vs : List V} {ps : List Tm} {v : V} {p : Tm}, FtsAt ad H vs ps → FtAt ad H v p → FtsAt ad H (vs ++ [v]) (ps ++ [p])
  | [], [], v, p, _, h => by show FtsAt ad H [v] [p]; unfold FtsAt; exact ⟨h, by unfold FtsAt; trivial⟩
  | x :: xs, q :: ps, v, p, h, h2 => by
    show FtsAt ad H (x :: (xs ++ [v])) (q :: (ps ++ [p]))
    unfold FtsAt at h ⊢
    exact ⟨h.1, FtsAt.snoc h.2 h2⟩
  | [], _ :: _, _, _, h, _ => by unfold FtsAt at h; exact h.elim
  | _ :: _, [], _, _, h, _ => by unfold FtsAt at h; exact h.elim
theorem dpL_mem : ∀ {ps : List Tm} {p : Tm}, p ∈ ps → dpT p ≤ dpL ps
  | q :: ps, p, h => by
    unfold dpL
    rcases List.mem_cons.mp h with rfl | h
    · exact Nat.le_max_left _ _
    · exact Nat.le_trans (dpL_mem h) (Nat.le_max_right _ _)
theorem okL_mem : ∀ {ps : List Tm} {p : Tm}, okL ps → p ∈ ps → okT p
  | q :: ps, p, o, h => by
    unfold okL at o
    rcases List.mem_cons.mp h with rfl | h
    · exact o.1
    · exact okL_mem o.2 h
theorem okL_of : ∀ {ps : List Tm}, (∀ p ∈ ps, okT p) → okL ps
  | [], _ => by unfold okL; trivial
  | q :: ps, h => by unfold okL; exact ⟨h q List.mem_cons_self, okL_of fun p hp => h p (List.mem_cons_of_mem _ hp)⟩
theorem dpL_le {n : Nat} : ∀ {ps : List Tm}, (∀ p ∈ ps, dpT p ≤ n) → dpL ps ≤ n
  | [], _ => by unfold dpL; exact Nat.zero_le _
  | q :: ps, h => by unfold dpL; exact Nat.max_le.mpr ⟨h q List.mem_cons_self, dpL_le fun p hp => h p (List.mem_cons_of_mem _ hp)⟩
theorem mkSame {H : Hp} {x dx C : Addr} {fs : List (Str × V)} (hx : H x = none) (hdx : H dx = none) (hne : dx ≠ x) : Same H (upd (upd H dx (.own x)) x (.ins C dx fs)) := (Same.put hdx).upd (by rw [upd_ne (Ne.symm hne)]; exact hx)
theorem mkSame2 {H : Hp} {z dx C t : Addr} {fs : List (Str × V)} {o o' : HO} (hz : H z = none) (hdx : H dx = none) (hne : dx ≠ z) (ht : (upd (upd H dx (.own z)) z (.ins C dx fs)) t = none) : Same H (upd (upd (upd (upd H dx (.own z)) z (.ins C dx fs)) t o) z o') := fun b ob hb => by
  have h2 := (mkSame (C := C) (fs := fs) hz hdx hne) b ob hb
  rw [upd_ne (ne_of_none hb hz), upd_ne (ne_of_none h2 ht)]
  exact h2
theorem sIx1 (n : Nat) : HT.sIx (n + 1) 0 (some 1) = 1 := by
  have := HT.sIx_nat (n + 1) 0 1
  rw [show (((1 : Nat) : Int)) = 1 from rfl] at this
  rw [this]
  omega
theorem no_whole {n : Nat} {P : Prop} : ¬ (HT.sIx (n + 1) 0 (some 1) = 0 ∧ P) := fun h => by
  rw [sIx1] at h
  exact absurd h.1 (by decide)
theorem cut1 (x : V) (xs : List V) : cutV (x :: xs) (some 1) none = xs := cut_from (n := 1) rfl
mutual
def growsT : Tm → Bool
  | .has _ => true
  | .many _ _ => true
  | .pair w _ _ => decide (¬ w = "beside")
  | .joint _ ps => growsL ps
  | .not _ => false
def growsL : List Tm → Bool
  | [] => true
  | p :: ps => growsT p && growsL ps
end
theorem lk2 {α : Type} {a b : Str} {x y : α} (h : (b == a) = false) : List.lookup b [(a, x), (b, y)] = some y := by
  rw [List.lookup_cons, h, List.lookup_cons, beq_self_eq_true]
theorem test_first {tt : TT} {σ : St} {H : Hp} {G : Bool → Hp → Prop} (S : Bool → Hp → Prop) (h : ∀ G' : Bool → Hp → Prop, (∀ b H1, S b H1 → G' b H1) → tt σ H G') (g : ∀ b H1, S b H1 → G b H1) : tt σ H G := h _ g
theorem split_it {wi : TI} {σ : St} {H : Hp} {G : It → Hp → Prop} (S : It → Hp → Prop) (h : ∀ G' : It → Hp → Prop, (∀ J H1, S J H1 → G' J H1) → wi σ H G') (g : ∀ J H1, S J H1 → G J H1) : wi σ H G := h _ g
theorem inV_strs (z : Str) (zs : List Str) : inV (.str z) (zs.map V.str) = decide (z ∈ zs) := by
  unfold inV
  induction zs with
  | nil => rfl
  | cons y r ih =>
    rw [List.map_cons, List.any_cons, ih]
    show ((y == z) || decide (z ∈ r)) = decide (z ∈ y :: r)
    by_cases h : y = z
    · subst h; simp
    · have h' : ¬ z = y := fun q => h q.symm
      simp [h, h']
mutual
def szT : Tm → Nat
  | .has _ => 1
  | .many _ _ => 1
  | .pair _ _ _ => 1
  | .joint _ ps => szL ps + 1
  | .not p => szT p + 1
def szL : List Tm → Nat
  | [] => 0
  | p :: ps => szT p + szL ps
end
mutual
theorem dp_sz : ∀ tm : Tm, dpT tm ≤ szT tm
  | .has _ => by unfold dpT szT; decide
  | .many _ _ => by unfold dpT szT; decide
  | .pair _ _ _ => by unfold dpT szT; decide
  | .joint _ ps => by simp only [dpT, szT]; have := dpL_sz ps; omega
  | .not p => by simp only [dpT, szT]; have := dp_sz p; omega
theorem dpL_sz : ∀ ps : List Tm, dpL ps ≤ szL ps
  | [] => by unfold dpL szL; exact Nat.le_refl _
  | p :: ps => by
    simp only [dpL, szL]
    have := dp_sz p
    have := dpL_sz ps
    exact Nat.max_le.mpr ⟨by omega, by omega⟩
end
theorem szL_app : ∀ ps qs : List Tm, szL (ps ++ qs) = szL ps + szL qs
  | [], qs => by rw [List.nil_append]; unfold szL; omega
  | p :: ps, qs => by
    have := szL_app ps qs
    simp only [List.cons_append, szL]
    omega
theorem szL_one (p : Tm) : szL [p] = szT p := by
  unfold szL
  show szT p + szL [] = szT p
  unfold szL
  rfl
theorem szL_cut (ps : List Tm) (i : Nat) : szL (ps.take i) + szL (ps.drop i) = szL ps := by rw [← szL_app, List.take_append_drop]
theorem szL_next {ps : List Tm} {i : Nat} {p : Tm} (h : ps[i]? = some p) : szL (ps.take (i + 1)) = szL (ps.take i) + szT p := by
  rw [List.take_add_one, h, szL_app]
  exact congrArg _ (szL_one p)
theorem szL_mem : ∀ {ps : List Tm} {p : Tm}, p ∈ ps → szT p ≤ szL ps
  | q :: ps, p, h => by
    unfold szL
    rcases List.mem_cons.mp h with rfl | h
    · omega
    · have := szL_mem h
      omega
mutual
def marksT : Tm → List Str
  | .has m => [m]
  | .many _ m => [m]
  | .pair _ a b => [a, b]
  | .joint _ ps => marksL ps
  | .not p => marksT p
def marksL : List Tm → List Str
  | [] => []
  | p :: ps => marksT p ++ marksL ps
end
theorem marksL_one (p : Tm) : marksL [p] = marksT p := by
  unfold marksL
  show marksT p ++ marksL [] = marksT p
  unfold marksL
  exact List.append_nil _
mutual
theorem marks_len : ∀ tm : Tm, (marksT tm).length ≤ 2 * szT tm
  | .has _ => by unfold marksT szT; exact (show 1 ≤ 2 by decide)
  | .many _ _ => by unfold marksT szT; exact (show 1 ≤ 2 by decide)
  | .pair _ _ _ => by unfold marksT szT; exact Nat.le_refl 2
  | .joint _ ps => by unfold marksT szT; have := marksL_len ps; omega
  | .not p => by unfold marksT szT; have := marks_len p; omega
theorem marksL_len : ∀ ps : List Tm, (marksL ps).length ≤ 2 * szL ps
  | [] => by unfold marksL szL; exact Nat.le_refl _
  | p :: ps => by
    unfold marksL szL
    have := marks_len p
    have := marksL_len ps
    rw [List.length_append]
    omega
end
def wr (w : Str) (zs : List Str) : Str := w ++ "(" ++ Str.join "," zs ++ ")"
mutual
def textT : Tm → Str
  | .has m => wr "has" [m]
  | .many k m => wr "many" [Str.ofString (toString k), m]
  | .pair w a b => wr w [a, b]
  | .joint b ps => wr (wJ b) (textL ps)
  | .not p => wr "not" [textT p]
def textL : List Tm → List Str
  | [] => []
  | p :: ps => textT p :: textL ps
end
theorem textL_map : ∀ ps, textL ps = ps.map textT
  | [] => by unfold textL; rfl
  | p :: ps => by unfold textL; rw [textL_map ps]; rfl
theorem wr_len (w : Str) (zs : List Str) : (wr w zs).length ≤ w.length + 2 + ((zs.map (·.length)).sum + zs.length) := by
  have h1 := StrLaws.join_length_le "," zs
  unfold wr
  rw [Str.length_append, Str.length_append, Str.length_append, show ("(" : Str).length = 1 by decide +kernel, show (")" : Str).length = 1 by decide +kernel]
  rw [show ("," : Str).length = 1 by decide +kernel] at h1
  omega
mutual
theorem text_len : ∀ tm : Tm, okT tm → (textT tm).length ≤ 2000 * szT tm
  | .has m, o => by
    unfold okT at o
    have h1 := wr_len "has" [m]
    have h2 := (mark_all o).2.1
    rw [show ("has" : Str).length = 3 by decide +kernel] at h1
    simp only [List.map_cons, List.map_nil, List.sum_cons, List.sum_nil, List.length_cons, List.length_nil] at h1
    unfold textT szT
    omega
  | .many k m, o => by
    unfold okT at o
    have h1 := wr_len "many" [Str.ofString (toString k), m]
    have h2 := (mark_all o.2).2.1
    have h3 := PyProof.Rows.int_text_len_1921 o.1
    rw [show ("many" : Str).length = 4 by decide +kernel] at h1
    simp only [List.map_cons, List.map_nil, List.sum_cons, List.sum_nil, List.length_cons, List.length_nil] at h1
    unfold textT szT
    omega
  | .pair w a b, o => by
    unfold okT at o
    have h1 := wr_len w [a, b]
    have h2 := (mark_all o.2.1).2.1
    have h3 := (mark_all o.2.2).2.1
    have h4 : w.length ≤ 6 := by rcases o.1 with rfl | rfl | rfl <;> decide +kernel
    simp only [List.map_cons, List.map_nil, List.sum_cons, List.sum_nil, List.length_cons, List.length_nil] at h1
    unfold textT szT
    omega
  | .joint b ps, o => by
    unfold okT at o
    have h1 := wr_len (wJ b) (textL ps)
    have h2 := textL_len ps o.2
    have h3 : (wJ b).length = 3 := by cases b <;> decide +kernel
    have h4 : (textL ps).length = ps.length := by rw [textL_map, List.length_map]
    have h5 := o.1.2
    unfold textT szT
    omega
  | .not p, o => by
    unfold okT at o
    have h1 := wr_len "not" [textT p]
    have h2 := text_len p o
    rw [show ("not" : Str).length = 3 by decide +kernel] at h1
    simp only [List.map_cons, List.map_nil, List.sum_cons, List.sum_nil, List.length_cons, List.length_nil] at h1
    unfold textT szT
    omega
theorem textL_len : ∀ ps : List Tm, okL ps → ((textL ps).map (·.length)).sum ≤ 2000 * szL ps
  | [], _ => by unfold textL szL; exact Nat.le_refl _
  | p :: ps, o => by
    unfold okL at o
    have h1 := text_len p o.1
    have h2 := textL_len ps o.2
    unfold textL szL
    rw [List.map_cons, List.sum_cons]
    omega
end
theorem many_text (x m : Str) : ("many(" : Str) ++ x ++ "," ++ m ++ ")" = wr "many" [x, m] := by
  unfold wr
  show _ = ("many" : Str) ++ "(" ++ (x ++ "," ++ m) ++ ")"
  rw [show ("many(" : Str) = ("many" : Str) ++ "(" by decide +kernel]
  simp only [Str.append_assoc]
theorem small_log {k : Int} (h0 : 0 ≤ k) (h : k < 10 ^ 51) : k.natAbs.log2 < 1920 := by
  by_cases z : k.natAbs = 0
  · rw [z]; decide
  · refine (Nat.log2_lt z).mpr (Nat.lt_trans (show k.natAbs < 10 ^ 51 by omega) ?_)
    decide +kernel
def clsN : Tm → Nat
  | .has _ => 0
  | .many _ _ => 1
  | .pair w _ _ => if w = "before" then 2 else if w = "under" then 3 else 4
  | .joint b _ => if b then 5 else 6
  | .not _ => 7
theorem clsN_p (w a b : Str) : clsN (.pair w a b) = if w = "before" then 2 else if w = "under" then 3 else 4 := rfl
theorem cls_pair (w a b : Str) : clsN (.pair w a b) = 2 ∧ w = "before" ∨ clsN (.pair w a b) = 3 ∧ w = "under" ∨ clsN (.pair w a b) = 4 := by
  rw [show clsN (.pair w a b) = if w = "before" then 2 else if w = "under" then 3 else 4 from rfl]
  by_cases h1 : w = "before"
  · exact .inl ⟨if_pos h1, h1⟩
  · by_cases h2 : w = "under"
    · exact .inr (.inl ⟨by rw [if_neg h1, if_pos h2], h2⟩)
    · exact .inr (.inr (by rw [if_neg h1, if_neg h2]))
theorem cls_joint (b : Bool) (ps : List Tm) : clsN (.joint b ps) = 5 ∧ b = true ∨ clsN (.joint b ps) = 6 ∧ b = false := by
  cases b
  · exact .inr ⟨rfl, rfl⟩
  · exact .inl ⟨rfl, rfl⟩
theorem cls_of (tm : Tm) : (clsN tm = 0 ∧ ∃ m, tm = .has m) ∨ (clsN tm = 1 ∧ ∃ k m, tm = .many k m) ∨ ((clsN tm = 2 ∨ clsN tm = 3 ∨ clsN tm = 4) ∧ ∃ w a b, tm = .pair w a b) ∨ ((clsN tm = 5 ∨ clsN tm = 6) ∧ ∃ b ps, tm = .joint b ps) ∨ (clsN tm = 7 ∧ ∃ p, tm = .not p) := by
  cases tm with
  | has m => exact .inl ⟨rfl, m, rfl⟩
  | many k m => exact .inr (.inl ⟨rfl, k, m, rfl⟩)
  | pair w a b => exact .inr (.inr (.inl ⟨(cls_pair w a b).elim (fun h => .inl h.1) fun h => h.elim (fun h => .inr (.inl h.1)) fun h => .inr (.inr h), w, a, b, rfl⟩))
  | joint b ps => exact .inr (.inr (.inr (.inl ⟨(cls_joint b ps).elim (fun h => .inl h.1) fun h => .inr h.1, b, ps, rfl⟩)))
  | not p => exact .inr (.inr (.inr (.inr ⟨rfl, p, rfl⟩)))
theorem of0 {tm : Tm} (h : clsN tm ∈ [0]) : ∃ m, tm = .has m := by
  have h := List.mem_singleton.mp h
  rcases cls_of tm with ⟨_, x⟩ | ⟨y, _⟩ | ⟨y, _⟩ | ⟨y, _⟩ | ⟨y, _⟩
  · exact x
  all_goals omega
theorem of1 {tm : Tm} (h : clsN tm ∈ [1]) : ∃ k m, tm = .many k m := by
  have h := List.mem_singleton.mp h
  rcases cls_of tm with ⟨y, _⟩ | ⟨_, x⟩ | ⟨y, _⟩ | ⟨y, _⟩ | ⟨y, _⟩
  · omega
  · exact x
  all_goals omega
theorem ofP {tm : Tm} (h : clsN tm ∈ [2, 3, 4]) : ∃ w a b, tm = .pair w a b := by
  simp only [List.mem_cons, List.not_mem_nil, or_false] at h
  rcases cls_of tm with ⟨y, _⟩ | ⟨y, _⟩ | ⟨_, x⟩ | ⟨y, _⟩ | ⟨y, _⟩
  · omega
  · omega
  · exact x
  all_goals omega
theorem of2 {tm : Tm} (h : clsN tm ∈ [2]) : ∃ a b, tm = .pair "before" a b := by
  have h := List.mem_singleton.mp h
  obtain ⟨w, a, b, rfl⟩ := ofP (tm := tm) (by rw [h]; decide)
  rcases cls_pair w a b with ⟨_, rfl⟩ | ⟨y, _⟩ | y
  · exact ⟨a, b, rfl⟩
  all_goals omega
theorem of3 {tm : Tm} (h : clsN tm ∈ [3]) : ∃ a b, tm = .pair "under" a b := by
  have h := List.mem_singleton.mp h
  obtain ⟨w, a, b, rfl⟩ := ofP (tm := tm) (by rw [h]; decide)
  rcases cls_pair w a b with ⟨y, _⟩ | ⟨_, rfl⟩ | y
  · omega
  · exact ⟨a, b, rfl⟩
  · omega
theorem of4 {tm : Tm} (h : clsN tm ∈ [4]) (o : okT tm) : ∃ a b, tm = .pair "beside" a b := by
  have h := List.mem_singleton.mp h
  obtain ⟨w, a, b, rfl⟩ := ofP (tm := tm) (by rw [h]; decide)
  unfold okT at o
  rcases o.1 with rfl | rfl | rfl
  · rcases cls_pair "before" a b with ⟨y, _⟩ | ⟨y, _⟩ | y
    · omega
    · omega
    · exact absurd ((show clsN (.pair "before" a b) = 2 from (clsN_p _ _ _).trans (if_pos rfl)).symm.trans y) (by decide)
  · rcases cls_pair "under" a b with ⟨y, _⟩ | ⟨y, _⟩ | y
    · omega
    · omega
    · exact absurd ((show clsN (.pair "under" a b) = 3 from (clsN_p _ _ _).trans <| (if_neg (by decide +kernel)).trans (if_pos rfl)).symm.trans y) (by decide)
  · exact ⟨a, b, rfl⟩
theorem ofJ {tm : Tm} (h : clsN tm ∈ [5, 6]) : ∃ b ps, tm = .joint b ps := by
  simp only [List.mem_cons, List.not_mem_nil, or_false] at h
  rcases cls_of tm with ⟨y, _⟩ | ⟨y, _⟩ | ⟨y, _⟩ | ⟨_, x⟩ | ⟨y, _⟩
  · omega
  · omega
  · omega
  · exact x
  · omega
theorem of5 {tm : Tm} (h : clsN tm ∈ [5]) : ∃ ps, tm = .joint true ps := by
  have h := List.mem_singleton.mp h
  obtain ⟨b, ps, rfl⟩ := ofJ (tm := tm) (by rw [h]; decide)
  rcases cls_joint b ps with ⟨_, rfl⟩ | ⟨y, _⟩
  · exact ⟨ps, rfl⟩
  · omega
theorem of6 {tm : Tm} (h : clsN tm ∈ [6]) : ∃ ps, tm = .joint false ps := by
  have h := List.mem_singleton.mp h
  obtain ⟨b, ps, rfl⟩ := ofJ (tm := tm) (by rw [h]; decide)
  rcases cls_joint b ps with ⟨y, _⟩ | ⟨_, rfl⟩
  · omega
  · exact ⟨ps, rfl⟩
theorem of7 {tm : Tm} (h : clsN tm ∈ [7]) : ∃ p, tm = .not p := by
  have h := List.mem_singleton.mp h
  rcases cls_of tm with ⟨y, _⟩ | ⟨y, _⟩ | ⟨y, _⟩ | ⟨y, _⟩ | ⟨_, x⟩
  · omega
  · omega
  · omega
  · omega
  · exact x
def SpM (ad : Adr) (cs : List Nat) (n : Nat) (KK : Hp → Tm → VK → Prop) : Sp := fun vs H Q _ => ∃ (p : Addr) (tm : Tm), vs = [.ref p] ∧ clsN tm ∈ cs ∧ dpT tm < n ∧ FtAt ad H (.ref p) tm ∧ okT tm ∧ szT tm ≤ 60 ∧ KK H tm Q
def ShownK (H : Hp) (tm : Tm) (Q : VK) : Prop := ∀ H' : Hp, Same H H' → Q (.str (textT tm)) H'
def AtG (nm : Str) (C : Addr) (sp : Sp) (H : Hp) (v : V) (Q : VK) (E : XK) : Prop := ∃ a dx fs, v = .ref a ∧ H a = some (.ins C dx fs) ∧ List.lookup nm fs = none ∧ sp [v] H Q E
theorem AtG.go {nm : Str} {C : Addr} {sp : Sp} {H : Hp} {v : V} {Q : VK} {E : XK} (h : AtG nm C sp H v Q E) : ∃ a, v = .ref a ∧ ∃ x y, H a = some (.ins C x y) ∧ List.lookup nm y = none ∧ sp [v] H Q E := let ⟨a, x, y, e, h1, h2, s⟩ := h; ⟨a, e, x, y, h1, h2, s⟩
theorem lookup_1 {α : Type} {a c : Str} {x : α} (h : (c == a) = false) : List.lookup c [(a, x)] = none := by
  rw [List.lookup_cons, h]
  rfl
theorem pick8 {ad : Adr} {H : Hp} {v : V} {tm : Tm} {n m : Nat} {KK : Hp → Tm → VK → Prop} {nm : Str} {Q : VK} {E : XK} {c3 c4 c5 c6 c7 : List Nat} (h : FtAt ad H v tm) (ok : okT tm) (sz : szT tm ≤ 60) (hn : dpT tm < n) (hm : dpT tm < m) (k : KK H tm Q)
    (e1 : (nm == Str.ofString "mark") = false) (e2 : (nm == Str.ofString "number") = false) (e3 : (nm == Str.ofString "one") = false) (e4 : (nm == Str.ofString "other") = false) (e5 : (nm == Str.ofString "parts") = false) (e6 : (nm == Str.ofString "part") = false)
    (m3 : 2 ∈ c3) (m4 : 3 ∈ c4) (m5 : 4 ∈ c5) (m6 : 5 ∈ c6) (m7 : 6 ∈ c7) {R1 R2 R3 R4 R5 R6 R7 R8 : Prop}
    (f1 : AtG nm ad.Has (SpM ad [0] 61 KK) H v Q E → R1) (f2 : AtG nm ad.Many (SpM ad [1] 61 KK) H v Q E → R2) (f3 : AtG nm ad.Before (SpM ad c3 61 KK) H v Q E → R3) (f4 : AtG nm ad.Under (SpM ad c4 61 KK) H v Q E → R4)
    (f5 : AtG nm ad.Beside (SpM ad c5 61 KK) H v Q E → R5) (f6 : AtG nm ad.All (SpM ad c6 n KK) H v Q E → R6) (f7 : AtG nm ad.Any (SpM ad c7 n KK) H v Q E → R7) (f8 : AtG nm ad.Not (SpM ad [7] m KK) H v Q E → R8) :
    ((((((R1 ∨ R2) ∨ R3) ∨ R4) ∨ R5) ∨ R6) ∨ R7) ∨ R8 := by
  have d20 : dpT tm < 61 := Nat.lt_succ_of_le (Nat.le_trans (dp_sz tm) sz)
  have go : ∀ {C : Addr} {cs : List Nat} {i : Nat}, clsN tm ∈ cs → dpT tm < i → (∃ a dx fs, v = .ref a ∧ H a = some (.ins C dx fs) ∧ List.lookup nm fs = none) → AtG nm C (SpM ad cs i KK) H v Q E := fun hc hi ⟨a, dx, fs, e, h1, h2⟩ => ⟨a, dx, fs, e, h1, h2, a, tm, by rw [e], hc, hi, e ▸ h, ok, sz, k⟩
  cases tm with
  | has m =>
    unfold FtAt at h; obtain ⟨a, dx, rfl, h⟩ := h
    exact .inl (.inl (.inl (.inl (.inl (.inl (.inl (f1 (go (List.mem_singleton.mpr rfl) d20 ⟨a, dx, _, rfl, h, lookup_1 e1⟩))))))))
  | many i m =>
    unfold FtAt at h; obtain ⟨a, dx, rfl, h⟩ := h
    exact .inl (.inl (.inl (.inl (.inl (.inl (.inr (f2 (go (List.mem_singleton.mpr rfl) d20 ⟨a, dx, _, rfl, h, lookup_no e2 e1⟩))))))))
  | pair w x y =>
    unfold okT at ok
    rcases ok.1 with rfl | rfl | rfl
    · have ec : clsN (.pair "before" x y) = 2 := (clsN_p _ _ _).trans (if_pos rfl)
      have h0 := h
      unfold FtAt at h; obtain ⟨a, dx, rfl, h⟩ := h
      exact .inl (.inl (.inl (.inl (.inl (.inr (f3 (go (by rw [ec]; exact m3) d20 ⟨a, dx, _, rfl, h, lookup_no e3 e4⟩)))))))
    · have ec : clsN (.pair "under" x y) = 3 := (clsN_p _ _ _).trans <| (if_neg (by decide +kernel)).trans (if_pos rfl)
      unfold FtAt at h; obtain ⟨a, dx, rfl, h⟩ := h
      rw [show clsP ad "under" = ad.Under from (if_neg (by decide +kernel)).trans (if_pos rfl)] at h
      exact .inl (.inl (.inl (.inl (.inr (f4 (go (by rw [ec]; exact m4) d20 ⟨a, dx, _, rfl, h, lookup_no e3 e4⟩))))))
    · have ec : clsN (.pair "beside" x y) = 4 := (clsN_p _ _ _).trans <| (if_neg (by decide +kernel)).trans (if_neg (by decide +kernel))
      unfold FtAt at h; obtain ⟨a, dx, rfl, h⟩ := h
      rw [show clsP ad "beside" = ad.Beside from (if_neg (by decide +kernel)).trans (if_neg (by decide +kernel))] at h
      exact .inl (.inl (.inl (.inr (f5 (go (by rw [ec]; exact m5) d20 ⟨a, dx, _, rfl, h, lookup_no e3 e4⟩)))))
  | joint b ps =>
    unfold FtAt at h; obtain ⟨a, dx, t, xs, rfl, h, _⟩ := h
    cases b with
    | true => exact .inl (.inl (.inr (f6 (go m6 hn ⟨a, dx, _, rfl, h, lookup_1 e5⟩))))
    | false => exact .inl (.inr (f7 (go m7 hn ⟨a, dx, _, rfl, h, lookup_1 e5⟩)))
  | not p =>
    unfold FtAt at h; obtain ⟨a, dx, x, rfl, h, _⟩ := h
    exact .inr (f8 (go (List.mem_singleton.mpr rfl) hm ⟨a, dx, _, rfl, h, lookup_1 e6⟩))
def But (L : Addr) (H H' : Hp) : Prop := ∀ b o, b ≠ L → H b = some o → H' b = some o
theorem But.refl (L : Addr) (H : Hp) : But L H H := fun _ _ _ e => e
theorem But.trans {L : Addr} {H H1 H2 : Hp} (a : But L H H1) (b : But L H1 H2) : But L H H2 := fun x o n e => b x o n (a x o n e)
theorem But.of {L : Addr} {H H' : Hp} (s : Same H H') : But L H H' := fun b o _ e => s b o e
theorem But.upd {L : Addr} {H H' : Hp} {o : HO} (s : But L H H') : But L H (upd H' L o) := fun b u n e => by rw [upd_ne n]; exact s b u n e
theorem But.free {L : Addr} {H H' : Hp} {b : Addr} (s : But L H H') (n : b ≠ L) (h : H' b = none) : H b = none := by
  cases e : H b with
  | none => rfl
  | some o => exact nomatch (s b o n e).symm.trans h
theorem But.same {L : Addr} {H0 H H' : Hp} (s : Same H0 H) (h0 : H0 L = none) (t : But L H H') : Same H0 H' := fun b o e => t b o (ne_of_none e h0) (s b o e)
theorem But.tups {L : Addr} {H H' : Hp} {ls : List V} (s : But L H H') (h : H L = some (.lst ls)) : ∀ b ys, H b = some (.tup ys) → H' b = some (.tup ys) := fun b ys e => s b _ (fun q => by rw [q, h] at e; cases e) e
def NL (H H' : Hp) : Prop := ∀ b o, (∀ xs, o ≠ .lst xs) → H b = some o → H' b = some o
theorem But.nl {L : Addr} {H H' : Hp} {ls : List V} (s : But L H H') (h : H L = some (.lst ls)) : NL H H' := fun b o n e => s b o (fun q => by rw [q, h] at e; exact n _ (Option.some.inj e).symm) e
mutual
theorem FtAt.nl {ad : Adr} {H H' : Hp} (s : NL H H') : ∀ {v : V} {tm : Tm}, FtAt ad H v tm → FtAt ad H' v tm
  | _, .has _, h => by unfold FtAt at h ⊢; obtain ⟨a, dx, e, h⟩ := h; exact ⟨a, dx, e, s _ _ (fun _ => nofun) h⟩
  | _, .many _ _, h => by unfold FtAt at h ⊢; obtain ⟨a, dx, e, h⟩ := h; exact ⟨a, dx, e, s _ _ (fun _ => nofun) h⟩
  | _, .pair _ _ _, h => by unfold FtAt at h ⊢; obtain ⟨a, dx, e, h⟩ := h; exact ⟨a, dx, e, s _ _ (fun _ => nofun) h⟩
  | _, .joint _ _, h => by unfold FtAt at h ⊢; obtain ⟨a, dx, t, xs, e, h, h2, r⟩ := h; exact ⟨a, dx, t, xs, e, s _ _ (fun _ => nofun) h, s _ _ (fun _ => nofun) h2, FtsAt.nl s r⟩
  | _, .not _, h => by unfold FtAt at h ⊢; obtain ⟨a, dx, x, e, h, r⟩ := h; exact ⟨a, dx, x, e, s _ _ (fun _ => nofun) h, FtAt.nl s r⟩
theorem FtsAt.nl {ad : Adr} {H H' : Hp} (s : NL H H') : ∀ {vs : List V} {ps : List Tm}, FtsAt ad H vs ps → FtsAt ad H' vs ps
  | [], [], _ => by unfold FtsAt; trivial
  | _ :: _, _ :: _, h => by unfold FtsAt at h ⊢; exact ⟨FtAt.nl s h.1, FtsAt.nl s h.2⟩
  | [], _ :: _, h => by unfold FtsAt at h; exact h.elim
  | _ :: _, [], h => by unfold FtsAt at h; exact h.elim
end
def NewL (H H' : Hp) (qs : List Addr) : Prop := qs.Nodup ∧ ∀ q ∈ qs, H q = none ∧ ∃ y ys, H' q = some (.lst (y :: ys))
theorem NewL.nil {H H' : Hp} : NewL H H' [] := ⟨List.nodup_nil, fun _ h => nomatch h⟩
def wdT : Tm → Str
  | .has _ => "has"
  | .many _ _ => "many"
  | .pair w _ _ => w
  | .joint b _ => wJ b
  | .not _ => "not"
def restV : Tm → List V
  | .has m => [.str m]
  | .many k m => [.int k, .str m]
  | .pair _ a b => [.str a, .str b]
  | .joint _ _ => []
  | .not _ => []
def isJ : Tm → Bool
  | .joint _ _ => true
  | .not _ => true
  | _ => false
def subT : Tm → List Tm
  | .joint _ ps => ps
  | .not p => [p]
  | _ => []
theorem tm_tup {H : Hp} {v : V} {tm : Tm} (h : TmAt H v tm) : ∃ a xs, v = .ref a ∧ H a = some (.tup (.str (wdT tm) :: xs)) ∧ (isJ tm = false → xs = restV tm) ∧ (isJ tm = true → TmsAt H xs (subT tm)) := by
  cases tm with
  | has m => unfold TmAt at h; obtain ⟨a, e, h⟩ := h; exact ⟨a, _, e, h, fun _ => rfl, nofun⟩
  | many k m => unfold TmAt at h; obtain ⟨a, e, h⟩ := h; exact ⟨a, _, e, h, fun _ => rfl, nofun⟩
  | pair w x y => unfold TmAt at h; obtain ⟨a, e, h⟩ := h; exact ⟨a, _, e, h, fun _ => rfl, nofun⟩
  | joint b ps => unfold TmAt at h; obtain ⟨a, xs, e, h, r⟩ := h; exact ⟨a, xs, e, h, nofun, fun _ => r⟩
  | not p =>
    unfold TmAt at h; obtain ⟨a, x, e, h, r⟩ := h
    refine ⟨a, [x], e, h, nofun, fun _ => ?_⟩
    show TmsAt H [x] [p]
    unfold TmsAt
    exact ⟨r, by unfold TmsAt; trivial⟩
theorem in_j {tm : Tm} (o : okT tm) : inV (.str (wdT tm)) [.str "all", .str "any", .str "not"] = isJ tm := by
  cases tm with
  | has m => exact (show inV (.str "has") [.str "all", .str "any", .str "not"] = false by decide +kernel)
  | many k m => exact (show inV (.str "many") [.str "all", .str "any", .str "not"] = false by decide +kernel)
  | pair w x y =>
    unfold okT at o
    show inV (.str w) [.str "all", .str "any", .str "not"] = false
    rcases o.1 with rfl | rfl | rfl <;> decide +kernel
  | joint b ps =>
    show inV (.str (wJ b)) [.str "all", .str "any", .str "not"] = true
    cases b <;> decide +kernel
  | not p => exact (show inV (.str "not") [.str "all", .str "any", .str "not"] = true by decide +kernel)
theorem wd_many {tm : Tm} (o : okT tm) (h : wdT tm = "many") : ∃ k m, tm = .many k m := by
  cases tm with
  | has m => exact absurd h (show ¬ ("has" : Str) = "many" by decide +kernel)
  | many k m => exact ⟨k, m, rfl⟩
  | pair w x y =>
    unfold okT at o
    have h : w = "many" := h
    rw [h] at o
    exact absurd o.1 (show ¬ pairW "many" by unfold pairW; decide +kernel)
  | joint b ps =>
    have h : wJ b = "many" := h
    cases b
    · exact absurd h (show ¬ wJ false = "many" by decide +kernel)
    · exact absurd h (show ¬ wJ true = "many" by decide +kernel)
  | not p => exact absurd h (show ¬ ("not" : Str) = "many" by decide +kernel)
theorem sub_text {tm : Tm} (j : isJ tm = true) : textT tm = wr (wdT tm) ((subT tm).map textT) ∧ marksT tm = marksL (subT tm) ∧ szL (subT tm) + 1 = szT tm ∧ dpL (subT tm) + 1 = dpT tm := by
  cases tm with
  | joint b ps => refine ⟨?_, ?_, ?_, ?_⟩; unfold textT; rw [textL_map]; rfl; unfold marksT; rfl; conv => rhs; unfold szT
                  rfl
                  conv => rhs; unfold dpT
                  rfl
  | not p =>
    refine ⟨?_, ?_, ?_, ?_⟩
    · conv => lhs; unfold textT
      rfl
    · conv => lhs; unfold marksT
      exact (marksL_one p).symm
    · conv => rhs; unfold szT
      exact congrArg (· + 1) (szL_one p)
    · conv => rhs; unfold dpT
      show dpL [p] + 1 = _
      unfold dpL
      show max (dpT p) (dpL []) + 1 = _
      unfold dpL
      rw [Nat.max_zero]
  | _ => exact nomatch j
theorem sub_ok {tm : Tm} (o : okT tm) (j : isJ tm = true) : okL (subT tm) ∧ (subT tm).length ≤ 10 := by
  cases tm with
  | joint b ps => unfold okT at o; exact ⟨o.2, o.1.2⟩
  | not p => unfold okT at o; exact ⟨okL_of fun q hq => by rw [List.mem_singleton.mp hq]; exact o, (show 1 ≤ 10 by decide)⟩
  | _ => exact nomatch j
theorem wd_len {tm : Tm} (o : okT tm) : (wdT tm).length ≤ 6 := by
  cases tm with
  | has m => exact (show ("has" : Str).length ≤ 6 by decide +kernel)
  | many k m => exact (show ("many" : Str).length ≤ 6 by decide +kernel)
  | pair w x y =>
    unfold okT at o
    show w.length ≤ 6
    rcases o.1 with rfl | rfl | rfl <;> decide +kernel
  | joint b ps =>
    show (wJ b).length ≤ 6
    cases b <;> decide +kernel
  | not p => exact (show ("not" : Str).length ≤ 6 by decide +kernel)
theorem leaf_text {tm : Tm} (o : okT tm) (j : isJ tm = false) (n : ¬ wdT tm = "many") : ∃ zs : List Str, restV tm = zs.map V.str ∧ textT tm = wr (wdT tm) zs ∧ marksT tm = zs ∧ zs.length ≤ 2 ∧ (zs.map (·.length)).sum ≤ 16 := by
  cases tm with
  | has m =>
    unfold okT at o
    have := (mark_all o).2.1
    refine ⟨[m], rfl, by unfold textT; rfl, by unfold marksT; rfl, (show 1 ≤ 2 by decide), ?_⟩
    simp only [List.map_cons, List.map_nil, List.sum_cons, List.sum_nil]
    omega
  | many k m => exact absurd rfl n
  | pair w x y =>
    unfold okT at o
    have := (mark_all o.2.1).2.1
    have := (mark_all o.2.2).2.1
    refine ⟨[x, y], rfl, by unfold textT; rfl, by unfold marksT; rfl, (show 2 ≤ 2 by decide), ?_⟩
    simp only [List.map_cons, List.map_nil, List.sum_cons, List.sum_nil]
    omega
  | joint b ps => exact nomatch j
  | not p => exact nomatch j
theorem NewL.upd {L : Addr} {H H1 : Hp} {ls : List V} {o : HO} {qs : List Addr} (hL : H L = some (.lst ls)) (h : NewL H H1 qs) : NewL H (upd H1 L o) qs := ⟨h.1, fun q hq => ⟨(h.2 q hq).1, let ⟨y, ys, e⟩ := (h.2 q hq).2; ⟨y, ys, by rw [upd_ne fun e' => by have := (h.2 q hq).1; rw [e', hL] at this; cases this]; exact e⟩⟩⟩
theorem NewL.same {H H1 H2 : Hp} {qs : List Addr} (h : NewL H H1 qs) (s : Same H1 H2) : NewL H H2 qs := ⟨h.1, fun q hq => ⟨(h.2 q hq).1, let ⟨y, ys, e⟩ := (h.2 q hq).2; ⟨y, ys, s _ _ e⟩⟩⟩
mutual
theorem ok_marks : ∀ tm : Tm, okT tm → ∀ z ∈ marksT tm, markS z = true
  | .has m, o, z, h => by
    unfold okT at o; unfold marksT at h
    rw [List.mem_singleton.mp h]; exact o
  | .many k m, o, z, h => by
    unfold okT at o; unfold marksT at h
    rw [List.mem_singleton.mp h]; exact o.2
  | .pair w a b, o, z, h => by
    unfold okT at o; unfold marksT at h
    rcases List.mem_cons.mp h with rfl | h
    · exact o.2.1
    · rw [List.mem_singleton.mp h]; exact o.2.2
  | .joint b ps, o, z, h => by unfold okT at o; unfold marksT at h; exact okL_marks ps o.2 z h
  | .not p, o, z, h => by unfold okT at o; unfold marksT at h; exact ok_marks p o z h
theorem okL_marks : ∀ ps : List Tm, okL ps → ∀ z ∈ marksL ps, markS z = true
  | [], _, z, h => by unfold marksL at h; exact nomatch h
  | p :: ps, o, z, h => by
    unfold okL at o; unfold marksL at h
    rcases List.mem_append.mp h with h | h
    · exact ok_marks p o.1 z h
    · exact okL_marks ps o.2 z h
end
theorem NL.refl (H : Hp) : NL H H := fun _ _ _ e => e
theorem NL.upd {H H' : Hp} {q : Addr} {xs : List V} {o : HO} (s : NL H H') (h : H' q = some (.lst xs)) : NL H (upd H' q o) := fun b u n e => by
  have e' := s b u n e
  rw [upd_ne fun x => by rw [x, h] at e'; exact n _ (Option.some.inj e').symm]
  exact e'
mutual
def rdT : Tm → Prop
  | .has m => markS m = true
  | .many k m => (1 ≤ k ∧ k ≤ 999999999) ∧ markS m = true
  | .pair w a b => pairW w ∧ markS a = true ∧ markS b = true
  | .joint _ ps => (2 ≤ ps.length ∧ ps.length ≤ 6) ∧ rdL ps
  | .not p => rdT p
def rdL : List Tm → Prop
  | [] => True
  | p :: ps => rdT p ∧ rdL ps
end
theorem rdL_mem : ∀ {ps : List Tm} {p : Tm}, rdL ps → p ∈ ps → rdT p
  | q :: ps, p, o, h => by
    unfold rdL at o
    rcases List.mem_cons.mp h with rfl | h
    · exact o.1
    · exact rdL_mem o.2 h
theorem rdL_of : ∀ {ps : List Tm}, (∀ p ∈ ps, rdT p) → rdL ps
  | [], _ => by unfold rdL; trivial
  | q :: ps, h => by unfold rdL; exact ⟨h q List.mem_cons_self, rdL_of fun p hp => h p (List.mem_cons_of_mem _ hp)⟩
theorem num_log {k : Int} (h : 1 ≤ k ∧ k ≤ 999999999) : k.natAbs.log2 < 1920 := small_log (by omega) (Int.lt_of_le_of_lt h.2 (by decide +kernel))
mutual
theorem rd_ok : ∀ tm : Tm, rdT tm → okT tm
  | .has m, h => by unfold rdT at h; unfold okT; exact h
  | .many k m, h => by unfold rdT at h; unfold okT; exact ⟨num_log h.1, h.2⟩
  | .pair w a b, h => by unfold rdT at h; unfold okT; exact h
  | .joint b ps, h => by unfold rdT at h; unfold okT; exact ⟨⟨by omega, by omega⟩, rdL_ok ps h.2⟩
  | .not p, h => by unfold rdT at h; unfold okT; exact rd_ok p h
theorem rdL_ok : ∀ ps : List Tm, rdL ps → okL ps
  | [], _ => by unfold okL; trivial
  | p :: ps, h => by unfold rdL at h; unfold okL; exact ⟨rd_ok p h.1, rdL_ok ps h.2⟩
end
theorem num13 (x : Int) : 1 ≤ 1 + x % 13 ∧ 1 + x % 13 ≤ 999999999 := by omega
theorem stack_fold {H : Hp} {vs : List V} {tms : List Tm} {n : Nat} {b : Bool} {q : Addr} (h : TmsAt H vs tms) (n1 : 2 ≤ n) (n10 : n ≤ 6) (hn : n ≤ vs.length) (ok : rdL tms) (hq : H q = some (.tup (.str (wJ b) :: vs.drop (vs.length - n)))) :
    ∃ tms', TmsAt H (vs.take (vs.length - n) ++ [.ref q]) tms' ∧ rdL tms' ∧ szL tms' ≤ szL tms + 1 ∧ dpL tms' ≤ dpL tms + 1 := by
  have hl := h.length
  refine ⟨tms.take (vs.length - n) ++ [.joint b (tms.drop (vs.length - n))], (h.take _).snoc (by unfold TmAt; exact ⟨q, _, rfl, hq, h.drop _⟩), rdL_of fun p hp => ?_, ?_, dpL_le fun p hp => ?_⟩
  · rcases List.mem_append.mp hp with h1 | h1
    · exact rdL_mem ok (List.mem_of_mem_take h1)
    · rw [List.mem_singleton.mp h1]
      unfold rdT
      exact ⟨by rw [List.length_drop]; omega, rdL_of fun p hp => rdL_mem ok (List.mem_of_mem_drop hp)⟩
  · have := szL_cut tms (vs.length - n)
    rw [szL_app, szL_one]
    unfold szT
    omega
  · rcases List.mem_append.mp hp with h1 | h1
    · have := dpL_mem (List.mem_of_mem_take h1)
      omega
    · rw [List.mem_singleton.mp h1]
      unfold dpT
      have : dpL (tms.drop (vs.length - n)) ≤ dpL tms := dpL_le fun p hp => dpL_mem (List.mem_of_mem_drop hp)
      omega
theorem stack_snoc {H : Hp} {vs : List V} {tms : List Tm} {v : V} {tm : Tm} (h : TmsAt H vs tms) (ok : rdL tms) (ht : TmAt H v tm) (o : rdT tm) (d : szT tm = 1) (e : dpT tm = 0) :
    ∃ tms', TmsAt H (vs ++ [v]) tms' ∧ rdL tms' ∧ szL tms' ≤ szL tms + 1 ∧ dpL tms' ≤ dpL tms := by
  refine ⟨tms ++ [tm], h.snoc ht, rdL_of fun p hp => ?_, by rw [szL_app, szL_one]; omega, dpL_le fun p hp => ?_⟩
  · rcases List.mem_append.mp hp with h1 | h1
    · exact rdL_mem ok h1
    · rw [List.mem_singleton.mp h1]; exact o
  · rcases List.mem_append.mp hp with h1 | h1
    · exact dpL_mem h1
    · rw [List.mem_singleton.mp h1]; omega
theorem stack_not {H H' : Hp} {vs : List V} {tms : List Tm} {w : V} {pm : Tm} (h : TmsAt H vs tms) (ok : rdL tms) (l1 : 1 ≤ vs.length) (hp : tms[vs.length - 1]? = some pm) (tA : ∀ b ys, H b = some (.tup ys) → H' b = some (.tup ys)) (ht : TmAt H' w (.not pm)) :
    ∃ tms', TmsAt H' (vs.dropLast ++ [w]) tms' ∧ rdL tms' ∧ szL tms' ≤ szL tms + 1 ∧ dpL tms' ≤ dpL tms + 1 := by
  have e := szL_next hp
  have hl := h.length
  rw [show vs.length - 1 + 1 = tms.length by omega, List.take_length] at e
  have mm := List.mem_of_getElem? hp
  refine ⟨tms.take (vs.length - 1) ++ [.not pm], ?_, rdL_of fun p hp' => ?_, ?_, dpL_le fun p hp' => ?_⟩
  · rw [List.dropLast_eq_take]
    exact ((h.take _).tups tA).snoc ht
  · rcases List.mem_append.mp hp' with h1 | h1
    · exact rdL_mem ok (List.mem_of_mem_take h1)
    · rw [List.mem_singleton.mp h1]
      unfold rdT
      exact rdL_mem ok mm
  · rw [szL_app, szL_one]
    unfold szT
    omega
  · rcases List.mem_append.mp hp' with h1 | h1
    · have := dpL_mem (List.mem_of_mem_take h1)
      omega
    · rw [List.mem_singleton.mp h1]
      unfold dpT
      have := dpL_mem mm
      omega
def chs (z : Str) : List Nat := z.cps.toList
theorem chs_len (z : Str) : (chs z).length = z.length := by unfold chs; exact Array.length_toList
theorem chs_app (a b : Str) : chs (a ++ b) = chs a ++ chs b := by
  unfold chs
  rw [Str.cps_append, Array.toList_append]
theorem chs_inj {a b : Str} (h : chs a = chs b) : a = b := by
  obtain ⟨⟨x⟩⟩ := a
  obtain ⟨⟨y⟩⟩ := b
  cases (show x = y from h)
  rfl
theorem of_chs (z : Str) : (⟨(chs z).toArray⟩ : Str) = z := chs_inj rfl
def insT : Tm → List Str
  | .has m => [m]
  | .many k m => [Str.ofString (toString k), m]
  | .pair _ a b => [a, b]
  | .joint _ ps => ps.map textT
  | .not p => [textT p]
def inT (tm : Tm) : Str := Str.join "," (insT tm)
theorem text_wr (tm : Tm) : textT tm = wr (wdT tm) (insT tm) := by
  cases tm with
  | has m => unfold textT; rfl
  | many k m => unfold textT; rfl
  | pair w a b => unfold textT; rfl
  | joint b ps => unfold textT; rw [textL_map]; rfl
  | not p => conv => lhs; unfold textT
             rfl
theorem text_chs (tm : Tm) : chs (textT tm) = chs (wdT tm) ++ 40 :: (chs (inT tm) ++ [41]) := by
  rw [text_wr]
  unfold wr
  rw [chs_app, chs_app, chs_app, show chs "(" = [40] by decide +kernel, show chs ")" = [41] by decide +kernel, List.append_assoc, List.append_assoc]
  rfl
theorem join2 (x y : Str) (r : List Str) : chs (Str.join "," (x :: y :: r)) = chs x ++ 44 :: chs (Str.join "," (y :: r)) := by
  show chs (x ++ "," ++ Str.join "," (y :: r)) = _
  rw [chs_app, chs_app, show chs "," = [44] by decide +kernel, List.append_assoc]
  rfl
theorem mark_let {m : Str} (h : markS m = true) : ∀ c ∈ chs m, c ∈ chs LET := fun c hc => letC_iff.mp ((mark_all h).2.2 c hc)
theorem wd_let {tm : Tm} (o : okT tm) : ∀ c ∈ chs (wdT tm), c ∈ chs LET := by
  cases tm with
  | has m => exact (show ∀ c ∈ chs "has", c ∈ chs LET by decide +kernel)
  | many k m => exact (show ∀ c ∈ chs "many", c ∈ chs LET by decide +kernel)
  | pair w x y =>
    unfold okT at o
    show ∀ c ∈ chs w, c ∈ chs LET
    rcases o.1 with rfl | rfl | rfl <;> decide +kernel
  | joint b ps =>
    show ∀ c ∈ chs (wJ b), c ∈ chs LET
    cases b <;> decide +kernel
  | not p => exact (show ∀ c ∈ chs "not", c ∈ chs LET by decide +kernel)
theorem head0 : ∀ n : Nat, 0 < n → ∀ c r, Nat.toDigits 10 n = c :: r → c ≠ '0' := by
  intro n
  induction n using Nat.strongRecOn with
  | _ n ih =>
    intro h c r e
    by_cases h10 : n < 10
    · rw [Nat.toDigits_of_lt_base h10] at e
      cases e
      exact fun z => by rw [Nat.digitChar_eq_zero] at z; omega
    · have e2 := Nat.toDigits_of_base_le (b := 10) (n := n) (by decide) (by omega)
      rw [e2] at e
      cases e3 : Nat.toDigits 10 (n / 10) with
      | nil => exact absurd e3 (Nat.toDigits_ne_nil)
      | cons d s =>
        rw [e3] at e
        cases e
        exact ih (n / 10) (by omega) (by omega) _ _ e3
theorem num_chs {k : Int} (h : 1 ≤ k ∧ k ≤ 999999999) : (∀ c ∈ chs (Str.ofString (toString k)), c ∈ chs "0123456789") ∧ 1 ≤ (chs (Str.ofString (toString k))).length ∧ (chs (Str.ofString (toString k))).length ≤ 9 ∧ ∃ c r, chs (Str.ofString (toString k)) = c :: r ∧ c ≠ 48 := by
  obtain ⟨n, rfl⟩ := Int.eq_ofNat_of_zero_le (show 0 ≤ k by omega)
  have e : chs (Str.ofString (toString (n : Int))) = (Nat.toDigits 10 n).map Char.toNat := by
    have := PyProof.Rows.text_ofNat n
    rw [show ((n : Nat) : Int) = Int.ofNat n from rfl, this]
    rfl
  rw [e]
  have l1 := Nat.length_toDigits_pos (b := 10) (n := n)
  have l2 := PySem.toDigits_len_pow (b := 10) (k := 9) (n := n) (by decide) (by decide) (by omega)
  refine ⟨fun c hc => ?_, by rw [List.length_map]; exact l1, by rw [List.length_map]; exact l2, ?_⟩
  · obtain ⟨d, hd, rfl⟩ := List.mem_map.mp hc
    have := PyProof.Rows.digit_range (Nat.isDigit_of_mem_toDigits (by decide) (by decide) hd)
    rw [show chs "0123456789" = [48, 49, 50, 51, 52, 53, 54, 55, 56, 57] by decide +kernel]
    simp only [List.mem_cons, List.not_mem_nil, or_false]
    omega
  · cases e2 : Nat.toDigits 10 n with
    | nil => rw [e2] at l1; exact absurd l1 (by decide)
    | cons d r =>
      refine ⟨d.toNat, r.map Char.toNat, rfl, fun z => ?_⟩
      exact head0 n (by omega) d r e2 (Char.toNat_inj.mp (z.trans (show 48 = '0'.toNat from rfl)))
def NI (H H' : Hp) : Prop := ∀ b o, (∀ C dx f g h, o ≠ HO.ins C dx [f, g, h]) → H b = some o → H' b = some o
mutual
theorem FtAt.ni {ad : Adr} {H H' : Hp} (s : NI H H') : ∀ {v : V} {tm : Tm}, FtAt ad H v tm → FtAt ad H' v tm
  | _, .has _, h => by unfold FtAt at h ⊢; obtain ⟨a, dx, e, h⟩ := h; exact ⟨a, dx, e, s _ _ (fun _ _ _ _ _ => nofun) h⟩
  | _, .many _ _, h => by unfold FtAt at h ⊢; obtain ⟨a, dx, e, h⟩ := h; exact ⟨a, dx, e, s _ _ (fun _ _ _ _ _ => nofun) h⟩
  | _, .pair _ _ _, h => by unfold FtAt at h ⊢; obtain ⟨a, dx, e, h⟩ := h; exact ⟨a, dx, e, s _ _ (fun _ _ _ _ _ => nofun) h⟩
  | _, .joint _ _, h => by unfold FtAt at h ⊢; obtain ⟨a, dx, t, xs, e, h, h2, r⟩ := h; exact ⟨a, dx, t, xs, e, s _ _ (fun _ _ _ _ _ => nofun) h, s _ _ (fun _ _ _ _ _ => nofun) h2, FtsAt.ni s r⟩
  | _, .not _, h => by unfold FtAt at h ⊢; obtain ⟨a, dx, x, e, h, r⟩ := h; exact ⟨a, dx, x, e, s _ _ (fun _ _ _ _ _ => nofun) h, FtAt.ni s r⟩
theorem FtsAt.ni {ad : Adr} {H H' : Hp} (s : NI H H') : ∀ {vs : List V} {ps : List Tm}, FtsAt ad H vs ps → FtsAt ad H' vs ps
  | [], [], _ => by unfold FtsAt; trivial
  | _ :: _, _ :: _, h => by unfold FtsAt at h ⊢; exact ⟨FtAt.ni s h.1, FtsAt.ni s h.2⟩
  | [], _ :: _, h => by unfold FtsAt at h; exact h.elim
  | _ :: _, [], h => by unfold FtsAt at h; exact h.elim
end
def RdO (ad : Adr) (H : Hp) (p dx : Addr) (z : Str) (i n : Nat) : Prop := H p = some (.ins ad.Reader dx [("text", .str z), ("at", .int (i : Int)), ("met", .int (n : Int))])
theorem RdO.ni {ad : Adr} {H H' : Hp} {p dx : Addr} {z : Str} {i n : Nat} (h : RdO ad H p dx z i n) (s : But p H H') : NI H H' := fun b o g e => s b o (fun q => by
  unfold RdO at h
  rw [q, h] at e
  exact g _ _ _ _ _ (Option.some.inj e).symm) e
theorem drop_at {l w r : List Nat} {i : Nat} (h : l.drop i = w ++ r) : l.drop (i + w.length) = r := by
  rw [← List.drop_drop, h, List.drop_left]
theorem drop_ix {l r : List Nat} {c i : Nat} (h : l.drop i = c :: r) : l[i]? = some c ∧ i < l.length := by
  have e : (l.drop i)[0]? = some c := by rw [h]; rfl
  rw [List.getElem?_drop, Nat.add_zero] at e
  exact ⟨e, (List.getElem?_eq_some_iff.mp e).1⟩
theorem drop_le {l w r : List Nat} {i : Nat} (h : l.drop i = w ++ r) (hi : i ≤ l.length) : i + w.length ≤ l.length := by
  have := congrArg List.length h
  rw [List.length_drop, List.length_append] at this
  omega
theorem rf_text {a b c : V} : List.lookup (Str.ofString "text") [(Str.ofString "text", a), (Str.ofString "at", b), (Str.ofString "met", c)] = some a := by rw [List.lookup_cons, beq_self_eq_true]
theorem rf_at {a b c : V} : List.lookup (Str.ofString "at") [(Str.ofString "text", a), (Str.ofString "at", b), (Str.ofString "met", c)] = some b := by rw [List.lookup_cons, show (Str.ofString "at" == Str.ofString "text") = false by decide +kernel, List.lookup_cons, beq_self_eq_true]
theorem rf_met {a b c : V} : List.lookup (Str.ofString "met") [(Str.ofString "text", a), (Str.ofString "at", b), (Str.ofString "met", c)] = some c := by rw [List.lookup_cons, show (Str.ofString "met" == Str.ofString "text") = false by decide +kernel, List.lookup_cons, show (Str.ofString "met" == Str.ofString "at") = false by decide +kernel, List.lookup_cons, beq_self_eq_true]
theorem pf_at {a b c v : V} : putF (Str.ofString "at") v [(Str.ofString "text", a), (Str.ofString "at", b), (Str.ofString "met", c)] = [(Str.ofString "text", a), (Str.ofString "at", v), (Str.ofString "met", c)] := by
  show (if Str.ofString "text" = Str.ofString "at" then _ else _ :: (if Str.ofString "at" = Str.ofString "at" then _ else _)) = _
  rw [if_neg (by decide +kernel), if_pos rfl]
theorem pf_met {a b c v : V} : putF (Str.ofString "met") v [(Str.ofString "text", a), (Str.ofString "at", b), (Str.ofString "met", c)] = [(Str.ofString "text", a), (Str.ofString "at", b), (Str.ofString "met", v)] := by
  show (if Str.ofString "text" = Str.ofString "met" then _ else _ :: (if Str.ofString "at" = Str.ofString "met" then _ else _ :: (if Str.ofString "met" = Str.ofString "met" then _ else _))) = _
  rw [if_neg (by decide +kernel), if_neg (by decide +kernel), if_pos rfl]
theorem pf_new {a b c : V} : putF (Str.ofString "met") c (putF (Str.ofString "at") b (putF (Str.ofString "text") a [])) = [(Str.ofString "text", a), (Str.ofString "at", b), (Str.ofString "met", c)] := by
  rw [show putF (Str.ofString "at") b (putF (Str.ofString "text") a []) = [(Str.ofString "text", a), (Str.ofString "at", b)] from putF2 (by decide +kernel)]
  show (if Str.ofString "text" = Str.ofString "met" then _ else _ :: (if Str.ofString "at" = Str.ofString "met" then _ else _ :: [_])) = _
  rw [if_neg (by decide +kernel), if_neg (by decide +kernel)]
theorem cut_mid {z : Str} {i : Nat} {w r : List Nat} (h : (chs z).drop i = w ++ r) (hi : i ≤ z.length) : Txt.slice z (some (i : Int)) (some ((i + w.length : Nat) : Int)) = ⟨w.toArray⟩ := by
  have hl := drop_le h (by rw [chs_len]; exact hi)
  rw [chs_len] at hl
  have e := eq_of_beq (PyProof.Rows.slice_closesL (x := z) (i := (i : Int)) (j := ((i + w.length : Nat) : Int)) (by omega) (by omega) (by omega))
  rw [e, show (((i + w.length : Nat) : Int) - (i : Int)).toNat = w.length by omega, Int.toNat_natCast]
  have h : z.cps.toList.drop i = w ++ r := h
  rw [h, List.take_left]
def tl : List Tm → List Nat
  | [] => []
  | q :: qs => 44 :: chs (Str.join "," ((q :: qs).map textT))
theorem join_tl (q : Tm) (qs : List Tm) : chs (Str.join "," ((q :: qs).map textT)) = chs (textT q) ++ tl qs := by
  cases qs with
  | nil =>
    show chs (textT q) = _
    unfold tl
    rw [List.append_nil]
  | cons x y => exact join2 (textT q) (textT x) (y.map textT)
theorem But.put {p l : Addr} {H H' : Hp} {o : HO} (s : But p H H') (h : H l = none) : But p H (L2.upd H' l o) := fun b u n e => by rw [upd_ne (ne_of_none e h)]; exact s b u n e
theorem dpL_one (p : Tm) : dpL [p] = dpT p := by
  unfold dpL
  show max (dpT p) (dpL []) = _
  unfold dpL
  exact Nat.max_zero _
def lets (c : Nat) : Bool := decide (97 ≤ c ∧ c ≤ 122)
def figs (c : Nat) : Bool := decide (48 ≤ c ∧ c ≤ 57)
def pSign (c : Nat) : List Nat → Option (List Nat)
  | d :: r => if d = c then some r else none
  | [] => none
def valN (w : List Nat) : Nat := w.foldl (fun a c => 10 * a + (c - 48)) 0
def goodNum (w : List Nat) : Bool := decide (1 ≤ w.length) && decide (w.length ≤ 9) && decide (w.head? ≠ some 48)
def goodMark (w : List Nat) : Bool := decide (1 ≤ w.length) && decide (w.length ≤ 8)
def pMark (l : List Nat) : Option (Str × List Nat) := if goodMark (l.takeWhile lets) = true then some (⟨(l.takeWhile lets).toArray⟩, l.dropWhile lets) else none
def pNum (l : List Nat) : Option (Int × List Nat) := if goodNum (l.takeWhile figs) = true then some ((valN (l.takeWhile figs) : Int), l.dropWhile figs) else none
def pMany (l : List Nat) : Option (Tm × List Nat) := (pNum l).bind fun x => (pSign 44 x.2).bind fun r => (pMark r).bind fun y => some (.many x.1 y.1, y.2)
def pPair (w : Str) (l : List Nat) : Option (Tm × List Nat) := (pMark l).bind fun x => (pSign 44 x.2).bind fun r => (pMark r).bind fun y => some (.pair w x.1 y.1, y.2)
abbrev Nx := List Nat → Nat → Option (Tm × List Nat × Nat)
def pParts (nx : Nx) : Nat → List Nat → Nat → Option (List Tm × List Nat × Nat)
  | 0, _, _ => none
  | f + 1, l, n => (nx l n).bind fun x => match pSign 44 x.2.1 with
    | none => some ([x.1], x.2.1, x.2.2)
    | some r => (pParts nx f r x.2.2).bind fun y => some (x.1 :: y.1, y.2.1, y.2.2)
def pJoint (nx : Nx) (M : Nat) (b : Bool) (l : List Nat) (n : Nat) : Option (Tm × List Nat × Nat) := (pParts nx (M + 1) l n).bind fun x => if 2 ≤ x.1.length ∧ x.1.length ≤ 6 then some (.joint b x.1, x.2.1, x.2.2) else none
def wHas : List Nat := [104, 97, 115]
def wMany : List Nat := [109, 97, 110, 121]
def wBefore : List Nat := [98, 101, 102, 111, 114, 101]
def wUnder : List Nat := [117, 110, 100, 101, 114]
def wBeside : List Nat := [98, 101, 115, 105, 100, 101]
def wAll : List Nat := [97, 108, 108]
def wAny : List Nat := [97, 110, 121]
def wNot : List Nat := [110, 111, 116]
def pInside (nx : Nx) (M : Nat) (w : List Nat) (l : List Nat) (n : Nat) : Option (Tm × List Nat × Nat) :=
  if w = wHas then (pMark l).bind fun x => some (.has x.1, x.2, n)
  else if w = wMany then (pMany l).bind fun x => some (x.1, x.2, n)
  else if w = wBefore ∨ w = wUnder ∨ w = wBeside then (pPair ⟨w.toArray⟩ l).bind fun x => some (x.1, x.2, n)
  else if w = wAll then pJoint nx M true l n
  else if w = wAny then pJoint nx M false l n
  else if w = wNot then (nx l n).bind fun x => some (.not x.1, x.2.1, x.2.2)
  else none
def pNext (M : Nat) : Nat → Nx
  | 0, _, _ => none
  | d + 1, l, n => if M < n + 1 then none else (pSign 40 (l.dropWhile lets)).bind fun r => (pInside (pNext M d) M (l.takeWhile lets) r (n + 1)).bind fun x => (pSign 41 x.2.1).bind fun r => some (x.1, r, x.2.2)
theorem lets_iff {c : Nat} : lets c = true ↔ c ∈ chs LET := by
  rw [show chs LET = [97, 98, 99, 100, 101, 102, 103, 104, 105, 106, 107, 108, 109, 110, 111, 112, 113, 114, 115, 116, 117, 118, 119, 120, 121, 122] by decide +kernel]
  unfold lets
  simp only [decide_eq_true_eq, List.mem_cons, List.not_mem_nil, or_false]
  omega
theorem figs_iff {c : Nat} : figs c = true ↔ c ∈ chs "0123456789" := by
  rw [show chs "0123456789" = [48, 49, 50, 51, 52, 53, 54, 55, 56, 57] by decide +kernel]
  unfold figs
  simp only [decide_eq_true_eq, List.mem_cons, List.not_mem_nil, or_false]
  omega
theorem toDigits_snoc {n d : Nat} (h : 0 < n) (hd : d < 10) : Nat.toDigits 10 (10 * n + d) = Nat.toDigits 10 n ++ [Nat.digitChar d] := by
  rw [← Nat.toDigits_append_toDigits (by decide) h hd, Nat.toDigits_of_lt_base hd]
theorem valN_snoc (w : List Nat) (c : Nat) : valN (w ++ [c]) = 10 * valN w + (c - 48) := by
  unfold valN
  rw [List.foldl_append]
  rfl
theorem fig_range {c : Nat} (h : c ∈ chs "0123456789") : 48 ≤ c ∧ c ≤ 57 := by
  rw [show chs "0123456789" = [48, 49, 50, 51, 52, 53, 54, 55, 56, 57] by decide +kernel] at h
  simp only [List.mem_cons, List.not_mem_nil, or_false] at h
  omega
theorem digit_nat {c : Nat} (h : 48 ≤ c ∧ c ≤ 57) : (Nat.digitChar (c - 48)).toNat = c := by
  rw [Nat.toNat_digitChar_of_lt_ten (by omega)]
  omega
theorem num_back : ∀ (k : Nat) (w : List Nat), w.length = k + 1 → (∀ c ∈ w, 48 ≤ c ∧ c ≤ 57) → w.head? ≠ some 48 → 0 < valN w ∧ valN w < 10 ^ (k + 1) ∧ (Nat.toDigits 10 (valN w)).map Char.toNat = w
  | 0, w, hl, hw, hh => by
    obtain ⟨c, rfl⟩ := List.length_eq_one_iff.mp hl
    have hc := hw c List.mem_cons_self
    have h48 : c ≠ 48 := fun e => hh (by rw [e]; rfl)
    have e : valN [c] = c - 48 := by unfold valN; show 10 * 0 + (c - 48) = c - 48; omega
    rw [e, Nat.toDigits_of_lt_base (by omega)]
    refine ⟨by omega, by omega, ?_⟩
    rw [List.map_cons, digit_nat hc]
    rfl
  | k + 1, w, hl, hw, hh => by
    have ne : w ≠ [] := fun e => by rw [e] at hl; cases hl
    have ew := List.dropLast_concat_getLast ne
    have hc := hw _ (List.getLast_mem ne)
    generalize w.getLast ne = c at ew hc
    generalize w.dropLast = v at ew
    subst ew
    have lv : v.length = k + 1 := by rw [List.length_append] at hl; simpa using hl
    have vn : v ≠ [] := fun e => by rw [e] at lv; cases lv
    obtain ⟨h1, h2, h3⟩ := num_back k v lv (fun c hc => hw c (List.mem_append_left _ hc)) (by
      cases v with
      | nil => exact absurd rfl vn
      | cons x y => exact hh)
    rw [valN_snoc, toDigits_snoc h1 (by omega), List.map_append, h3, List.map_cons, digit_nat hc]
    refine ⟨by omega, ?_, rfl⟩
    rw [Nat.pow_succ]
    omega
theorem num_is {w : List Nat} (h : goodNum w = true) (hw : ∀ c ∈ w, c ∈ chs "0123456789") : (1 ≤ ((valN w : Nat) : Int) ∧ ((valN w : Nat) : Int) ≤ 999999999) ∧ chs (Str.ofString (toString ((valN w : Nat) : Int))) = w := by
  unfold goodNum at h
  simp only [Bool.and_eq_true, decide_eq_true_eq] at h
  obtain ⟨⟨h1, h2⟩, h3⟩ := h
  obtain ⟨k, hk⟩ : ∃ k, w.length = k + 1 := ⟨w.length - 1, by omega⟩
  obtain ⟨g1, g2, g3⟩ := num_back k w hk (fun c hc => fig_range (hw c hc)) h3
  have g4 : valN w < 10 ^ 9 := Nat.lt_of_lt_of_le g2 (Nat.pow_le_pow_right (by decide) (by omega))
  refine ⟨⟨by omega, by omega⟩, ?_⟩
  have := PyProof.Rows.text_ofNat (valN w)
  rw [show ((valN w : Nat) : Int) = Int.ofNat (valN w) from rfl, this]
  exact g3
theorem tw_mem {p : Nat → Bool} : ∀ (l : List Nat), ∀ c ∈ l.takeWhile p, p c = true
  | [], c, h => nomatch h
  | x :: r, c, h => by
    rw [List.takeWhile_cons] at h
    split at h
    · rename_i hx
      rcases List.mem_cons.mp h with rfl | h
      · exact hx
      · exact tw_mem r c h
    · cases h
theorem dw_head {p : Nat → Bool} : ∀ (l : List Nat) {c : Nat} {t : List Nat}, l.dropWhile p = c :: t → p c = false
  | [], _, _, h => nomatch h
  | x :: r, c, t, h => by
    rw [List.dropWhile_cons] at h
    split at h
    · exact dw_head r h
    · rename_i hx
      cases h
      exact Bool.eq_false_iff.mpr hx
theorem good_mark {w : List Nat} (h : ∀ c ∈ w, lets c = true) : markS ⟨w.toArray⟩ = goodMark w := by
  have e : (⟨w.toArray⟩ : Str).cps.toList = w := rfl
  unfold markS goodMark
  have l : (⟨w.toArray⟩ : Str).length = w.length := chs_len _ ▸ rfl
  rw [l]
  have a : (⟨w.toArray⟩ : Str).cps.toList.all letC = true := List.all_eq_true.mpr fun c hc => letC_iff.mpr (lets_iff.mp (h c (e ▸ hc)))
  rw [a, Bool.and_true]
theorem sign_is {c : Nat} {l r : List Nat} (h : pSign c l = some r) : l = c :: r := by
  cases l with
  | nil => cases h
  | cons d t =>
    have h : (if d = c then some t else none) = some r := h
    by_cases e : d = c
    · rw [if_pos e] at h
      rw [e, Option.some.inj h]
    · rw [if_neg e] at h
      cases h
theorem mark_is {l r : List Nat} {m : Str} (h : pMark l = some (m, r)) : markS m = true ∧ l = chs m ++ r ∧ r = l.dropWhile lets ∧ m = ⟨(l.takeWhile lets).toArray⟩ := by
  unfold pMark at h
  split at h
  · rename_i g
    cases h
    exact ⟨by rw [good_mark (tw_mem l)]; exact g, (List.takeWhile_append_dropWhile).symm, rfl, rfl⟩
  · cases h
theorem num_ok {l r : List Nat} {k : Int} (h : pNum l = some (k, r)) : (1 ≤ k ∧ k ≤ 999999999) ∧ l = chs (Str.ofString (toString k)) ++ r ∧ r = l.dropWhile figs := by
  unfold pNum at h
  split at h
  · rename_i g
    cases h
    obtain ⟨h1, h2⟩ := num_is g fun c hc => figs_iff.mp (tw_mem l c hc)
    exact ⟨h1, by rw [h2]; exact (List.takeWhile_append_dropWhile).symm, rfl⟩
  · cases h
def Tells (M D : Nat) (nx : Nx) : Prop := ∀ l n tm r n', nx l n = some (tm, r, n') → rdT tm ∧ dpT tm < D ∧ n' = n + szT tm ∧ n' ≤ M ∧ l = chs (textT tm) ++ r
theorem parts_is {M D : Nat} {nx : Nx} (h : Tells M D nx) : ∀ (f : Nat) (l : List Nat) (n : Nat) (ts : List Tm) (r : List Nat) (n' : Nat), pParts nx f l n = some (ts, r, n') → ts ≠ [] ∧ rdL ts ∧ dpL ts < D ∧ n' = n + szL ts ∧ n' ≤ M ∧ l = chs (Str.join "," (ts.map textT)) ++ r
  | 0, _, _, _, _, _, e => nomatch e
  | f + 1, l, n, ts, r, n', e => by
    unfold pParts at e
    obtain ⟨⟨t, r1, n1⟩, e1, e⟩ := Option.bind_eq_some_iff.mp e
    obtain ⟨h1, h2, h3, h4, h5⟩ := h l n t r1 n1 e1
    dsimp only at e
    split at e
    · cases e
      refine ⟨List.cons_ne_nil _ _, by unfold rdL; exact ⟨h1, by unfold rdL; trivial⟩, by rw [dpL_one]; exact h2, by rw [szL_one]; exact h3, h4, h5⟩
    · rename_i r2 e2
      obtain ⟨⟨ts2, r3, n3⟩, e3, e⟩ := Option.bind_eq_some_iff.mp e
      cases e
      obtain ⟨g1, g2, g3, g4, g5, g6⟩ := parts_is h f r2 n1 ts2 r3 n3 e3
      refine ⟨List.cons_ne_nil _ _, by unfold rdL; exact ⟨h1, g2⟩, ?_, ?_, g5, ?_⟩
      · have e : dpL (t :: ts2) = max (dpT t) (dpL ts2) := by rw [dpL]
        show dpL (t :: ts2) < D
        omega
      · have e : szL (t :: ts2) = szT t + szL ts2 := by rw [szL]
        show n3 = n + szL (t :: ts2)
        omega
      · rw [h5, sign_is e2, g6]
        cases ts2 with
        | nil => exact absurd rfl g1
        | cons x y =>
          show _ = chs (Str.join "," (textT t :: textT x :: y.map textT)) ++ r3
          rw [join2, List.append_assoc]
          rfl
theorem joint_is {M D : Nat} {nx : Nx} (h : Tells M D nx) {b : Bool} {l r : List Nat} {n n' : Nat} {tm : Tm} (e : pJoint nx M b l n = some (tm, r, n')) : rdT tm ∧ dpT tm < D + 1 ∧ n' + 1 = n + szT tm ∧ n' ≤ M ∧ l = chs (inT tm) ++ r ∧ wdT tm = wJ b := by
  unfold pJoint at e
  obtain ⟨⟨ts, r1, n1⟩, e1, e⟩ := Option.bind_eq_some_iff.mp e
  obtain ⟨g1, g2, g3, g4, g5, g6⟩ := parts_is h _ l n ts r1 n1 e1
  dsimp only at e
  split at e
  · rename_i hl
    cases e
    refine ⟨by unfold rdT; exact ⟨hl, g2⟩, by unfold dpT; omega, by unfold szT; omega, g5, g6, rfl⟩
  · cases e
theorem inside_is {M D : Nat} {nx : Nx} (h : Tells M D nx) {w l r : List Nat} {n n' : Nat} {tm : Tm} (hn : n ≤ M) (e : pInside nx M w l n = some (tm, r, n')) : rdT tm ∧ dpT tm < D + 1 ∧ n' + 1 = n + szT tm ∧ n' ≤ M ∧ l = chs (inT tm) ++ r ∧ chs (wdT tm) = w := by
  unfold pInside at e
  split at e
  · rename_i hw
    obtain ⟨⟨m, r1⟩, e1, e⟩ := Option.bind_eq_some_iff.mp e
    cases e
    obtain ⟨g1, g2, _⟩ := mark_is e1
    exact ⟨by unfold rdT; exact g1, by unfold dpT; omega, by unfold szT; rfl, hn, g2, hw ▸ (show chs "has" = wHas by decide +kernel)⟩
  split at e
  · rename_i hw
    obtain ⟨⟨t, r1⟩, e1, e⟩ := Option.bind_eq_some_iff.mp e
    cases e
    unfold pMany at e1
    obtain ⟨⟨k, r2⟩, a1, e1⟩ := Option.bind_eq_some_iff.mp e1
    obtain ⟨r3, a2, e1⟩ := Option.bind_eq_some_iff.mp e1
    obtain ⟨⟨m, r4⟩, a3, e1⟩ := Option.bind_eq_some_iff.mp e1
    cases e1
    obtain ⟨g1, g2, _⟩ := num_ok a1
    obtain ⟨g3, g4, _⟩ := mark_is a3
    refine ⟨by unfold rdT; exact ⟨g1, g3⟩, by unfold dpT; omega, by unfold szT; rfl, hn, ?_, hw ▸ (show chs "many" = wMany by decide +kernel)⟩
    rw [show chs (inT (.many k m)) = chs (Str.ofString (toString k)) ++ 44 :: chs m from join2 _ _ [], g2, show r2 = _ from sign_is a2, g4, List.append_assoc]
    rfl
  split at e
  · rename_i hw
    obtain ⟨⟨t, r1⟩, e1, e⟩ := Option.bind_eq_some_iff.mp e
    cases e
    unfold pPair at e1
    obtain ⟨⟨x, r2⟩, a1, e1⟩ := Option.bind_eq_some_iff.mp e1
    obtain ⟨r3, a2, e1⟩ := Option.bind_eq_some_iff.mp e1
    obtain ⟨⟨y, r4⟩, a3, e1⟩ := Option.bind_eq_some_iff.mp e1
    cases e1
    obtain ⟨g1, g2, _⟩ := mark_is a1
    obtain ⟨g3, g4, _⟩ := mark_is a3
    have pw : pairW ⟨w.toArray⟩ := by
      rcases hw with h | h | h
      · exact .inl (chs_inj (h.trans (show wBefore = chs "before" by decide +kernel)))
      · exact .inr (.inl (chs_inj (h.trans (show wUnder = chs "under" by decide +kernel))))
      · exact .inr (.inr (chs_inj (h.trans (show wBeside = chs "beside" by decide +kernel))))
    refine ⟨by unfold rdT; exact ⟨pw, g1, g3⟩, by unfold dpT; omega, by unfold szT; rfl, hn, ?_, rfl⟩
    rw [show chs (inT (.pair ⟨w.toArray⟩ x y)) = chs x ++ 44 :: chs y from join2 _ _ [], g2, show r2 = _ from sign_is a2, g4, List.append_assoc]
    rfl
  split at e
  · rename_i hw
    obtain ⟨g1, g2, g3, g4, g5, g6⟩ := joint_is h e
    exact ⟨g1, g2, g3, g4, g5, by rw [g6, hw]; decide +kernel⟩
  split at e
  · rename_i hw
    obtain ⟨g1, g2, g3, g4, g5, g6⟩ := joint_is h e
    exact ⟨g1, g2, g3, g4, g5, by rw [g6, hw]; decide +kernel⟩
  split at e
  · rename_i hw
    obtain ⟨⟨t, r1, n1⟩, e1, e⟩ := Option.bind_eq_some_iff.mp e
    cases e
    obtain ⟨h1, h2, h3, h4, h5⟩ := h l n t r1 n1 e1
    dsimp only
    exact ⟨by unfold rdT; exact h1, by unfold dpT; omega, by unfold szT; omega, h4, h5, hw ▸ (show chs "not" = wNot by decide +kernel)⟩
  · cases e
theorem next_is (M : Nat) : ∀ d, Tells M d (pNext M d)
  | 0 => fun l n tm r n' e => nomatch e
  | d + 1 => fun l n tm r n' e => by
    unfold pNext at e
    split at e
    · cases e
    · rename_i hM
      obtain ⟨r1, e1, e⟩ := Option.bind_eq_some_iff.mp e
      obtain ⟨⟨t, r2, n2⟩, e2, e⟩ := Option.bind_eq_some_iff.mp e
      obtain ⟨r3, e3, e⟩ := Option.bind_eq_some_iff.mp e
      cases e
      obtain ⟨g1, g2, g3, g4, g5, g6⟩ := inside_is (next_is M d) (by omega) e2
      dsimp only
      refine ⟨g1, g2, by omega, g4, ?_⟩
      have e5 : l = l.takeWhile lets ++ 40 :: r1 := by
        conv => lhs; rw [← List.takeWhile_append_dropWhile (p := lets) (l := l)]
        rw [sign_is e1]
      rw [text_chs, g6]
      conv => lhs; rw [e5, g5, show r2 = _ from sign_is e3]
      simp
theorem run_eq {p : Nat → Bool} : ∀ {w r : List Nat}, (∀ c ∈ w, p c = true) → (∀ c t, r = c :: t → p c = false) → (w ++ r).takeWhile p = w ∧ (w ++ r).dropWhile p = r
  | [], r, _, hr => by
    cases r with
    | nil => exact ⟨rfl, rfl⟩
    | cons c t =>
      have e := hr c t rfl
      exact ⟨by rw [List.nil_append, List.takeWhile_cons, e]; rfl, by rw [List.nil_append, List.dropWhile_cons, e]; rfl⟩
  | x :: w, r, hw, hr => by
    obtain ⟨h1, h2⟩ := run_eq (fun c hc => hw c (List.mem_cons_of_mem x hc)) hr
    have e := hw x List.mem_cons_self
    exact ⟨by rw [List.cons_append, List.takeWhile_cons, if_pos e, h1], by rw [List.cons_append, List.dropWhile_cons, if_pos e, h2]⟩
theorem sign_of (c : Nat) (r : List Nat) : pSign c (c :: r) = some r := if_pos rfl
theorem sign_no {c d : Nat} (r : List Nat) (h : d ≠ c) : pSign c (d :: r) = none := if_neg h
theorem mark_for {m : Str} {c : Nat} (r : List Nat) (h : markS m = true) (hc : lets c = false) : pMark (chs m ++ c :: r) = some (m, c :: r) := by
  have hl : ∀ x ∈ chs m, lets x = true := fun x hx => lets_iff.mpr (mark_let h x hx)
  obtain ⟨h1, h2⟩ := run_eq (r := c :: r) hl fun d t e => by cases e; exact hc
  unfold pMark
  rw [h1, h2, if_pos (by rw [← good_mark hl, of_chs]; exact h), of_chs]
theorem num_for {k : Int} {c : Nat} (r : List Nat) (h : 1 ≤ k ∧ k ≤ 999999999) (hc : figs c = false) : pNum (chs (Str.ofString (toString k)) ++ c :: r) = some (k, c :: r) := by
  obtain ⟨n1, n2, n3, d, t, n4, n5⟩ := num_chs h
  obtain ⟨h1, h2⟩ := run_eq (r := c :: r) (fun x hx => figs_iff.mpr (n1 x hx)) fun d t e => by cases e; exact hc
  have g : goodNum (chs (Str.ofString (toString k))) = true := by
    unfold goodNum
    rw [decide_eq_true n2, decide_eq_true n3, n4]
    simpa using n5
  have e := (num_is g n1).2
  unfold pNum
  rw [h1, h2, if_pos g]
  obtain ⟨n, rfl⟩ := Int.eq_ofNat_of_zero_le (show 0 ≤ k by omega)
  have e0 : chs (Str.ofString (toString (n : Int))) = (Nat.toDigits 10 n).map Char.toNat := by
    have := PyProof.Rows.text_ofNat n
    rw [show ((n : Nat) : Int) = Int.ofNat n from rfl, this]
    rfl
  have v : valN (chs (Str.ofString (toString (n : Int)))) = n := by
    obtain ⟨j, hj⟩ : ∃ j, (chs (Str.ofString (toString (n : Int)))).length = j + 1 := ⟨_, (Nat.succ_pred_eq_of_pos n2).symm⟩
    have g3 := (num_back j _ hj (fun c hc => fig_range (n1 c hc)) (by rw [n4]; simpa using n5)).2.2
    rw [e0] at g3 ⊢
    have g4 : Nat.toDigits 10 (valN ((Nat.toDigits 10 n).map Char.toNat)) = Nat.toDigits 10 n := List.map_inj_right (fun x y h => Char.toNat_inj.mp h) |>.mp g3
    have b1 := PySem.W.KIN.val_back (valN ((Nat.toDigits 10 n).map Char.toNat))
    rw [g4, PySem.W.KIN.val_back] at b1
    exact b1.symm
  rw [v]
theorem szT_pos (tm : Tm) : 1 ≤ szT tm := by cases tm <;> unfold szT <;> omega
theorem len_sz : ∀ ps : List Tm, ps.length ≤ szL ps
  | [] => Nat.zero_le _
  | p :: ps => by
    have := szT_pos p
    have := len_sz ps
    rw [szL, List.length_cons]
    omega
def Reads (M D : Nat) (nx : Nx) : Prop := ∀ tm r n, rdT tm → dpT tm < D → n + szT tm ≤ M → nx (chs (textT tm) ++ r) n = some (tm, r, n + szT tm)
theorem parts_of {M D : Nat} {nx : Nx} (h : Reads M D nx) : ∀ (ps : List Tm) (f : Nat) (r : List Nat) (n : Nat), ps ≠ [] → ps.length ≤ f → rdL ps → dpL ps < D → n + szL ps ≤ M → pSign 44 r = none → pParts nx f (chs (Str.join "," (ps.map textT)) ++ r) n = some (ps, r, n + szL ps)
  | [], _, _, _, z, _, _, _, _, _ => absurd rfl z
  | p :: ps, 0, _, _, _, z, _, _, _, _ => absurd z (Nat.not_succ_le_zero _)
  | p :: ps, f + 1, r, n, _, hf, rd, dp, sz, hr => by
    unfold rdL at rd
    have ed : dpL (p :: ps) = max (dpT p) (dpL ps) := by rw [dpL]
    have es : szL (p :: ps) = szT p + szL ps := by rw [szL]
    rw [join_tl, List.append_assoc]
    unfold pParts
    rw [h p _ n rd.1 (by omega) (by omega)]
    show (match pSign 44 (tl ps ++ r) with
      | none => some ([p], tl ps ++ r, n + szT p)
      | some r => (pParts nx f r (n + szT p)).bind fun y => some (p :: y.1, y.2.1, y.2.2)) = _
    cases ps with
    | nil =>
      rw [show tl [] ++ r = r from rfl, hr, szL_one]
    | cons q qs =>
      rw [show tl (q :: qs) ++ r = 44 :: (chs (Str.join "," ((q :: qs).map textT)) ++ r) from rfl, sign_of]
      show (pParts nx f _ (n + szT p)).bind _ = _
      rw [parts_of h (q :: qs) f r (n + szT p) (List.cons_ne_nil _ _) (by simpa using hf) rd.2 (by omega) (by omega) hr, es, ← Nat.add_assoc]
      rfl
theorem inside_of {M D : Nat} {nx : Nx} (h : Reads M D nx) {tm : Tm} {r : List Nat} {n : Nat} (rd : rdT tm) (dp : dpT tm < D + 1) (sz : n + szT tm ≤ M + 1) : pInside nx M (chs (wdT tm)) (chs (inT tm) ++ 41 :: r) n = some (tm, 41 :: r, n + szT tm - 1) := by
  have l41 : lets 41 = false := by decide
  have l44 : lets 44 = false := by decide
  have f44 : figs 44 = false := by decide
  cases tm with
  | has m =>
    unfold rdT at rd
    unfold pInside
    rw [if_pos (show chs (wdT (.has m)) = wHas from (show chs "has" = wHas by decide +kernel)), show inT (.has m) = m from rfl, mark_for r rd l41]
    unfold szT
    rfl
  | many k m =>
    unfold rdT at rd
    unfold pInside
    rw [if_neg (show ¬ chs (wdT (.many k m)) = wHas from (show ¬ chs "many" = wHas by decide +kernel)), if_pos (show chs (wdT (.many k m)) = wMany from (show chs "many" = wMany by decide +kernel)), show chs (inT (.many k m)) = chs (Str.ofString (toString k)) ++ 44 :: chs m from join2 _ _ [], List.append_assoc]
    unfold pMany
    rw [show chs (Str.ofString (toString k)) ++ (44 :: chs m ++ 41 :: r) = chs (Str.ofString (toString k)) ++ 44 :: (chs m ++ 41 :: r) from rfl, num_for _ rd.1 f44]
    show ((pSign 44 (44 :: (chs m ++ 41 :: r))).bind fun r => (pMark r).bind fun y => some (Tm.many k y.1, y.2)).bind _ = _
    rw [sign_of]
    show ((pMark (chs m ++ 41 :: r)).bind fun y => some (Tm.many k y.1, y.2)).bind _ = _
    rw [mark_for r rd.2 l41]
    unfold szT
    rfl
  | pair w a b =>
    unfold rdT at rd
    unfold pInside
    have hw : chs w = wBefore ∨ chs w = wUnder ∨ chs w = wBeside := by
      rcases rd.1 with rfl | rfl | rfl <;> decide +kernel
    have n1 : ¬ chs w = wHas := by rcases hw with e | e | e <;> rw [e] <;> decide
    have n2 : ¬ chs w = wMany := by rcases hw with e | e | e <;> rw [e] <;> decide
    rw [if_neg (show ¬ chs (wdT (.pair w a b)) = wHas from n1), if_neg (show ¬ chs (wdT (.pair w a b)) = wMany from n2), if_pos (show chs (wdT (.pair w a b)) = wBefore ∨ chs (wdT (.pair w a b)) = wUnder ∨ chs (wdT (.pair w a b)) = wBeside from hw), show (⟨(chs (wdT (.pair w a b))).toArray⟩ : Str) = w from of_chs w, show chs (inT (.pair w a b)) = chs a ++ 44 :: chs b from join2 _ _ [], List.append_assoc]
    unfold pPair
    rw [show chs a ++ (44 :: chs b ++ 41 :: r) = chs a ++ 44 :: (chs b ++ 41 :: r) from rfl, mark_for _ rd.2.1 l44]
    show ((pSign 44 (44 :: (chs b ++ 41 :: r))).bind fun r => (pMark r).bind fun y => some (Tm.pair w a y.1, y.2)).bind _ = _
    rw [sign_of]
    show ((pMark (chs b ++ 41 :: r)).bind fun y => some (Tm.pair w a y.1, y.2)).bind _ = _
    rw [mark_for r rd.2.2 l41]
    unfold szT
    rfl
  | joint b ps =>
    unfold rdT at rd
    unfold dpT at dp
    unfold szT at sz ⊢
    have l2 := rd.1.1
    have ls := len_sz ps
    have go : pJoint nx M b (chs (inT (.joint b ps)) ++ 41 :: r) n = some (.joint b ps, 41 :: r, n + (szL ps + 1) - 1) := by
      unfold pJoint
      rw [show inT (.joint b ps) = Str.join "," (ps.map textT) from rfl, parts_of h ps (M + 1) (41 :: r) n (fun e => by rw [e] at l2; cases l2) (by omega) rd.2 (by omega) (by omega) (sign_no r (by decide))]
      show (if 2 ≤ ps.length ∧ ps.length ≤ 6 then some (Tm.joint b ps, 41 :: r, n + szL ps) else none) = _
      rw [if_pos rd.1]
      rfl
    unfold pInside
    cases b with
    | true =>
      have e : chs (wdT (.joint true ps)) = wAll := (show chs (wJ true) = wAll by decide +kernel)
      rw [e, if_neg (by decide), if_neg (by decide), if_neg (by decide), if_pos rfl]
      exact go
    | false =>
      have e : chs (wdT (.joint false ps)) = wAny := (show chs (wJ false) = wAny by decide +kernel)
      rw [e, if_neg (by decide), if_neg (by decide), if_neg (by decide), if_neg (by decide), if_pos rfl]
      exact go
  | not p =>
    unfold rdT at rd
    unfold dpT at dp
    unfold szT at sz ⊢
    unfold pInside
    have e : chs (wdT (.not p)) = wNot := (show chs "not" = wNot by decide +kernel)
    rw [e, if_neg (by decide), if_neg (by decide), if_neg (by decide), if_neg (by decide), if_neg (by decide), if_pos rfl, show inT (.not p) = textT p from rfl, h p _ n rd (by omega) (by omega)]
    rfl
theorem next_of (M : Nat) : ∀ d, Reads M d (pNext M d)
  | 0 => fun tm r n _ dp _ => absurd dp (Nat.not_lt_zero _)
  | d + 1 => fun tm r n rd dp sz => by
    have p := szT_pos tm
    have ok := rd_ok tm rd
    unfold pNext
    rw [if_neg (by omega), text_chs, List.append_assoc]
    obtain ⟨h1, h2⟩ := run_eq (p := lets) (w := chs (wdT tm)) (r := 40 :: (chs (inT tm) ++ [41]) ++ r) (fun c hc => lets_iff.mpr (wd_let ok c hc)) fun c t e => by
      cases e
      decide
    rw [h1, h2]
    show (pSign 40 (40 :: (chs (inT tm) ++ [41] ++ r))).bind _ = _
    rw [sign_of, List.append_assoc]
    show (pInside (pNext M d) M (chs (wdT tm)) (chs (inT tm) ++ 41 :: r) (n + 1)).bind _ = _
    rw [inside_of (next_of M d) rd dp (by omega)]
    rw [Option.bind_some]
    dsimp only
    rw [sign_of, Option.bind_some]
    rw [show n + 1 + szT tm - 1 = n + szT tm by omega]
theorem text_inj {t u : Tm} (ht : rdT t) (hu : rdT u) (e : textT t = textT u) : t = u := by
  have h1 := next_of (szT t + szT u) (dpT t + dpT u + 1) t [] 0 ht (by omega) (by omega)
  have h2 := next_of (szT t + szT u) (dpT t + dpT u + 1) u [] 0 hu (by omega) (by omega)
  rw [e, h2] at h1
  exact (Prod.mk.inj (Option.some.inj h1)).1.symm
def Ref (l : List Nat) : Prop := ∀ tm n, pNext 60 8 l 0 ≠ some (tm, [], n)
theorem next_go (M d : Nat) (l : List Nat) (n : Nat) : pNext M (d + 1) l n = if M < n + 1 then none else (pSign 40 (l.dropWhile lets)).bind fun r => (pInside (pNext M d) M (l.takeWhile lets) r (n + 1)).bind fun x => (pSign 41 x.2.1).bind fun r => some (x.1, r, x.2.2) := by rw [pNext]
theorem tw_mark {m : Str} {c : Nat} {r : List Nat} (h : markS m = true) (hc : lets c = false) : (chs m ++ c :: r).takeWhile lets = chs m ∧ (chs m ++ c :: r).dropWhile lets = c :: r := run_eq (fun x hx => lets_iff.mpr (mark_let h x hx)) fun d t e => by cases e; exact hc
theorem tw_end {m : Str} (h : markS m = true) : (chs m).takeWhile lets = chs m ∧ (chs m).dropWhile lets = [] := by
  have := run_eq (r := []) (fun x hx => lets_iff.mpr (mark_let h x hx)) fun d t e => nomatch e
  rw [List.append_nil] at this
  exact this
theorem mark_fig {m : Str} {r : List Nat} (h : markS m = true) : (chs m ++ r).takeWhile figs = [] := by
  have l := (mark_all h).1
  rw [← chs_len] at l
  cases e : chs m with
  | nil => rw [e] at l; exact absurd l (by decide)
  | cons c t =>
    have hc := lets_iff.mpr (mark_let h c (by rw [e]; exact List.mem_cons_self))
    have hc := of_decide_eq_true hc
    rw [List.cons_append, List.takeWhile_cons, if_neg]
    exact fun z => by have := of_decide_eq_true z; omega
def RdA (ad : Adr) (H : Hp) (p dx : Addr) (z : Str) (l : List Nat) (n : Nat) : Prop := ∃ i, i ≤ z.length ∧ (chs z).drop i = l ∧ RdO ad H p dx z i n
def Two {α : Type} (o : Option α) (A : α → Prop) (B : Prop) : Prop := (∀ x, o = some x → A x) ∧ (o = none → B)
theorem Two.yes {α : Type} {o : Option α} {A : α → Prop} {B : Prop} {x : α} (h : Two o A B) (e : o = some x) : A x := h.1 x e
theorem Two.no {α : Type} {o : Option α} {A : α → Prop} {B : Prop} (h : Two o A B) (e : o = none) : B := h.2 e
theorem RdA.same {ad : Adr} {H H' : Hp} {p dx : Addr} {z : Str} {l : List Nat} {n : Nat} (s : Same H H') (h : RdA ad H p dx z l n) : RdA ad H' p dx z l n := let ⟨i, a, b, c⟩ := h; ⟨i, a, b, s _ _ c⟩
theorem RdA.fields {ad : Adr} {H : Hp} {p dx : Addr} {z : Str} {l : List Nat} {n : Nat} (h : RdA ad H p dx z l n) : ∃ fs, H p = some (.ins ad.Reader dx fs) ∧ ∀ nm, (nm == Str.ofString "text") = false → (nm == Str.ofString "at") = false → (nm == Str.ofString "met") = false → List.lookup nm fs = none := by
  obtain ⟨i, _, _, h⟩ := h
  exact ⟨_, h, fun nm a b c => lookup_no3 a b c⟩
theorem RdA.ni {ad : Adr} {H H' : Hp} {p dx : Addr} {z : Str} {l : List Nat} {n : Nat} (h : RdA ad H p dx z l n) (s : But p H H') : NI H H' := let ⟨_, _, _, c⟩ := h; c.ni s
theorem end_is {z : Str} {l : List Nat} {i : Nat} (hi : i ≤ z.length) (h : (chs z).drop i = l) : l.isEmpty = decide (i = z.length) := by
  have e := congrArg List.length h
  rw [List.length_drop, chs_len] at e
  cases l with
  | nil => rw [List.length_nil] at e; rw [decide_eq_true (by omega)]; rfl
  | cons c t => rw [List.length_cons] at e; rw [decide_eq_false (by omega)]; rfl
theorem sign_ix {z : Str} {l : List Nat} {i c : Nat} (h : (chs z).drop i = l) : (pSign c l).isSome = decide ((chs z)[i]? = some c) := by
  cases l with
  | nil =>
    have : (chs z)[i]? = none := List.getElem?_eq_none (List.drop_eq_nil_iff.mp h)
    rw [this]
    rfl
  | cons d t =>
    rw [(drop_ix h).1]
    show (if d = c then some t else none).isSome = _
    by_cases e : d = c
    · rw [if_pos e, e, decide_eq_true rfl]; rfl
    · rw [if_neg e, decide_eq_false (fun z => e (Option.some.inj z))]; rfl
theorem sign_drop {z : Str} {l r : List Nat} {i c : Nat} (h : (chs z).drop i = l) (e : pSign c l = some r) : (chs z)[i]? = some c ∧ (chs z).drop (i + 1) = r ∧ i + 1 ≤ z.length := by
  rw [sign_is e] at h
  obtain ⟨h1, h2⟩ := drop_ix h
  rw [chs_len] at h2
  exact ⟨h1, by rw [← List.drop_drop, h]; rfl, h2⟩
theorem pw_iff {w : Str} : inV (.str w) [.str "before", .str "under", .str "beside"] = true ↔ pairW w := by
  have e : inV (.str w) [.str "before", .str "under", .str "beside"] = decide (w ∈ (["before", "under", "beside"] : List Str)) := inV_strs w ["before", "under", "beside"]
  rw [e, decide_eq_true_eq]
  unfold pairW
  simp only [List.mem_cons, List.not_mem_nil, or_false]
theorem word_iff {w s : Str} {l : List Nat} (h : chs s = l) : w = s ↔ chs w = l := ⟨fun e => by rw [e, h], fun e => chs_inj (e.trans h.symm)⟩
def onlyN (x : List Tm × List Nat × Nat) : Option (List Tm × List Nat × Nat) := if 2 ≤ x.1.length ∧ x.1.length ≤ 6 then some x else none
theorem joint_eq (nx : Nx) (b : Bool) (l : List Nat) (n : Nat) : pJoint nx 60 b l n = ((pParts nx 61 l n).bind onlyN).bind fun x => some (.joint b x.1, x.2.1, x.2.2) := by
  unfold pJoint
  cases pParts nx 61 l n with
  | none => rfl
  | some x =>
    show (if 2 ≤ x.1.length ∧ x.1.length ≤ 6 then _ else none) = (onlyN x).bind _
    unfold onlyN
    split <;> rfl
def contP (nx : Nx) (f : Nat) (ts : List Tm) (r : List Nat) (n : Nat) : Option (List Tm × List Nat × Nat) := match pSign 44 r with
  | none => some (ts, r, n)
  | some r2 => (pParts nx f r2 n).bind fun y => some (ts ++ y.1, y.2.1, y.2.2)
theorem parts_cont (nx : Nx) (f : Nat) (l : List Nat) (n : Nat) : pParts nx (f + 1) l n = (nx l n).bind fun x => contP nx f [x.1] x.2.1 x.2.2 := by
  rw [pParts]
  congr 1
def PSt (ad : Adr) (H : Hp) (p dx q : Addr) (z : Str) (nx : Nx) (P0 : Option (List Tm × List Nat × Nat)) (n2 : Nat) (H3 : Hp) : Prop := ∃ ts ys r f, But p H H3 ∧ H3 q = some (.lst ys) ∧ FtsAt ad H3 ys ts ∧ RdA ad H3 p dx z r n2 ∧ 61 ≤ f + n2 ∧ n2 ≤ 60 ∧ ts.length ≤ n2 ∧ P0 = contP nx f ts r n2
def PNx (ad : Adr) (H : Hp) (p dx q : Addr) (z : Str) (nx : Nx) (P0 : Option (List Tm × List Nat × Nat)) (n1 : Nat) (H3 : Hp) : Prop := ∃ n2, n1 < n2 ∧ PSt ad H p dx q z nx P0 n2 H3
theorem cont_step {nx : Nx} {f : Nat} {ts : List Tm} {r r2 : List Nat} {n : Nat} {y : Tm × List Nat × Nat} (e : pSign 44 r = some r2) (ey : nx r2 n = some y) : contP nx (f + 1) ts r n = contP nx f (ts ++ [y.1]) y.2.1 y.2.2 := by
  unfold contP
  rw [e]
  dsimp only
  rw [parts_cont, ey, Option.bind_some]
  unfold contP
  cases pSign 44 y.2.1 with
  | none => rfl
  | some r3 =>
    dsimp only
    cases pParts nx f r3 y.2.2 with
    | none => rfl
    | some w =>
      show some (ts ++ ([y.1] ++ w.1), w.2.1, w.2.2) = some (ts ++ [y.1] ++ w.1, w.2.1, w.2.2)
      rw [List.append_assoc]
theorem cont_none {nx : Nx} {f : Nat} {ts : List Tm} {r r2 : List Nat} {n : Nat} (e : pSign 44 r = some r2) (ey : nx r2 n = none) : contP nx (f + 1) ts r n = none := by
  unfold contP
  rw [e]
  dsimp only
  rw [parts_cont, ey]
  rfl
def sp_written (K : PySem.W.Frag) : Sp := fun vs H Q _ => ∃ (w : Str) (l : Addr) (zs : List Str), vs = [.str w, .ref l] ∧ SqL K H l (zs.map V.str) ∧ w.length ≤ 10 ∧ (zs.map (·.length)).sum + zs.length ≤ 1000000 ∧ Q (.str (wr w zs)) H
def sp_Has_init (ad : Adr) : Sp := fun vs H Q _ => ∃ (p dx : Addr) (m : Str), vs = [.ref p, .str m] ∧ H p = some (.ins ad.Has dx []) ∧ Q .non (upd H p (.ins ad.Has dx [("mark", .str m)]))
def sp_Has_shown (ad : Adr) : Sp := SpM ad [0] 61 ShownK
def sp_Many_init (ad : Adr) : Sp := fun vs H Q _ => ∃ (p dx : Addr) (k : Int) (m : Str), vs = [.ref p, .int k, .str m] ∧ H p = some (.ins ad.Many dx []) ∧ Q .non (upd H p (.ins ad.Many dx [("number", .int k), ("mark", .str m)]))
def sp_Many_shown (ad : Adr) : Sp := SpM ad [1] 61 ShownK
def sp_Pair_init (ad : Adr) : Sp := fun vs H Q _ => ∃ (p dx : Addr) (w a b : Str), vs = [.ref p, .str a, .str b] ∧ H p = some (.ins (clsP ad w) dx []) ∧ Q .non (upd H p (.ins (clsP ad w) dx [("one", .str a), ("other", .str b)]))
def sp_Before_shown (ad : Adr) : Sp := SpM ad [2] 61 ShownK
def sp_Under_shown (ad : Adr) : Sp := SpM ad [3] 61 ShownK
def sp_Beside_shown (ad : Adr) : Sp := SpM ad [4] 61 ShownK
def sp_Joint_init (K : PySem.W.Frag) (ad : Adr) : Sp := fun vs H Q _ => ∃ (p dx l : Addr) (b : Bool) (xs : List V), vs = [.ref p, .ref l] ∧ H p = some (.ins (clsJ ad b) dx []) ∧ SqL K H l xs ∧ ∀ t, H t = none → Q .non (upd (upd H t (.tup xs)) p (.ins (clsJ ad b) dx [("parts", .ref t)]))
def sp_All_shown (ad : Adr) (n : Nat) : Sp := SpM ad [5] n ShownK
def sp_Any_shown (ad : Adr) (n : Nat) : Sp := SpM ad [6] n ShownK
def sp_Not_init (ad : Adr) : Sp := fun vs H Q _ => ∃ (p dx : Addr) (x : V), vs = [.ref p, x] ∧ H p = some (.ins ad.Not dx []) ∧ Q .non (upd H p (.ins ad.Not dx [("part", x)]))
def sp_Not_shown (ad : Adr) (n : Nat) : Sp := SpM ad [7] n ShownK
def sp_is_mark : Sp := fun vs H Q _ => ∃ v, vs = [v] ∧ Thg H v ∧ ∀ H', Same H H' → Q (.bl (markV v)) H'
def sp_pair_fault (ad : Adr) : Sp := fun vs H Q _ => ∃ (w a b : Str), vs = [.str w, .str a, .str b] ∧ pairW w ∧ ∀ u H', Same H H' → FtAt ad H' u (.pair w a b) → Q u H'
def sp_Reader_init (ad : Adr) : Sp := fun vs H Q _ => ∃ (p dx : Addr) (z : Str), vs = [.ref p, .str z] ∧ H p = some (.ins ad.Reader dx []) ∧ Q .non (upd H p (.ins ad.Reader dx [("text", .str z), ("at", .int ((0 : Nat) : Int)), ("met", .int ((0 : Nat) : Int))]))
def sp_is_at_end (ad : Adr) : Sp := fun vs H Q _ => ∃ (p dx : Addr) (z : Str) (l : List Nat) (n : Nat), vs = [.ref p] ∧ RdA ad H p dx z l n ∧ z.length ≤ 1000 ∧ Q (.bl l.isEmpty) H
def sp_is_at (ad : Adr) : Sp := fun vs H Q _ => ∃ (p dx : Addr) (z : Str) (l : List Nat) (n : Nat) (s : Str) (c : Nat), vs = [.ref p, .str s] ∧ s = ⟨#[c]⟩ ∧ RdA ad H p dx z l n ∧ z.length ≤ 1000 ∧ Q (.bl (pSign c l).isSome) H
def sp_read_sign (ad : Adr) : Sp := fun vs H Q E => ∃ (p dx : Addr) (z : Str) (l : List Nat) (n : Nat) (s : Str) (c : Nat), vs = [.ref p, .str s] ∧ s = ⟨#[c]⟩ ∧ RdA ad H p dx z l n ∧ z.length ≤ 1000 ∧ Two (pSign c l) (fun r => ∀ H', But p H H' → RdA ad H' p dx z r n → Q .non H') (∀ H', But p H H' → E (.ref ad.NoFault) none H')
def sp_read_run (ad : Adr) : Sp := fun vs H Q _ => ∃ (p dx : Addr) (z : Str) (l : List Nat) (n : Nat) (S : Str) (f : Nat → Bool), vs = [.ref p, .str S] ∧ (∀ c, f c = true ↔ c ∈ chs S) ∧ RdA ad H p dx z l n ∧ z.length ≤ 1000 ∧ ∀ H', But p H H' → RdA ad H' p dx z (l.dropWhile f) n → Q (.str ⟨(l.takeWhile f).toArray⟩) H'
def sp_read_mark (ad : Adr) : Sp := fun vs H Q E => ∃ (p dx : Addr) (z : Str) (l : List Nat) (n : Nat), vs = [.ref p] ∧ RdA ad H p dx z l n ∧ z.length ≤ 1000 ∧ Two (pMark l) (fun x => ∀ H', But p H H' → RdA ad H' p dx z x.2 n → Q (.str x.1) H') (∀ H', But p H H' → E (.ref ad.NoFault) none H')
def sp_read_number (ad : Adr) : Sp := fun vs H Q E => ∃ (p dx : Addr) (z : Str) (l : List Nat) (n : Nat), vs = [.ref p] ∧ RdA ad H p dx z l n ∧ z.length ≤ 1000 ∧ Two (pNum l) (fun x => ∀ H', But p H H' → RdA ad H' p dx z x.2 n → Q (.int x.1) H') (∀ H', But p H H' → E (.ref ad.NoFault) none H')
def sp_read_next (ad : Adr) (m : Nat) : Sp := fun vs H Q E => ∃ (p dx : Addr) (z : Str) (l : List Nat) (n deep d : Nat), vs = [.ref p, .int (deep : Int)] ∧ 3 * d + 2 < m ∧ deep + d = 9 ∧ RdA ad H p dx z l n ∧ z.length ≤ 1000 ∧ Two (pNext 60 d l n) (fun x => ∀ u H', But p H H' → FtAt ad H' u x.1 → RdA ad H' p dx z x.2.1 x.2.2 → Q u H') (∀ H', But p H H' → E (.ref ad.NoFault) none H')
def sp_read_inside (ad : Adr) (m : Nat) : Sp := fun vs H Q E => ∃ (p dx : Addr) (z : Str) (l : List Nat) (n deep d : Nat) (w : Str), vs = [.ref p, .str w, .int (deep : Int)] ∧ 3 * d + 4 < m ∧ deep + d = 8 ∧ n ≤ 60 ∧ RdA ad H p dx z l n ∧ z.length ≤ 1000 ∧ Two (pInside (pNext 60 d) 60 (chs w) l n) (fun x => ∀ u H', But p H H' → FtAt ad H' u x.1 → RdA ad H' p dx z x.2.1 x.2.2 → Q u H') (∀ H', But p H H' → E (.ref ad.NoFault) none H')
def sp_read_many (ad : Adr) : Sp := fun vs H Q E => ∃ (p dx : Addr) (z : Str) (l : List Nat) (n : Nat), vs = [.ref p] ∧ RdA ad H p dx z l n ∧ z.length ≤ 1000 ∧ Two (pMany l) (fun x => ∀ u H', But p H H' → FtAt ad H' u x.1 → RdA ad H' p dx z x.2 n → Q u H') (∀ H', But p H H' → E (.ref ad.NoFault) none H')
def sp_read_pair (ad : Adr) : Sp := fun vs H Q E => ∃ (p dx : Addr) (z : Str) (l : List Nat) (n : Nat) (w : Str), vs = [.ref p, .str w] ∧ pairW w ∧ RdA ad H p dx z l n ∧ z.length ≤ 1000 ∧ Two (pPair w l) (fun x => ∀ u H', But p H H' → FtAt ad H' u x.1 → RdA ad H' p dx z x.2 n → Q u H') (∀ H', But p H H' → E (.ref ad.NoFault) none H')
def sp_read_parts (ad : Adr) (m : Nat) : Sp := fun vs H Q E => ∃ (p dx : Addr) (z : Str) (l : List Nat) (n deep d : Nat), vs = [.ref p, .int (deep : Int)] ∧ 3 * d + 3 < m ∧ deep + d = 9 ∧ n ≤ 60 ∧ RdA ad H p dx z l n ∧ z.length ≤ 1000 ∧ Two ((pParts (pNext 60 d) 61 l n).bind onlyN) (fun x => ∀ q ys H', But p H H' → H' q = some (.lst ys) → FtsAt ad H' ys x.1 → RdA ad H' p dx z x.2.1 x.2.2 → Q (.ref q) H') (∀ H', But p H H' → E (.ref ad.NoFault) none H')
def sp_read_fault (K : PySem.W.Frag) (ad : Adr) : Sp := fun vs H Q E => ∃ (v : V) (ty : Value) (b : Bool), vs = [v] ∧ TyOf K H v ty ∧ PySem.W.kitOne K ty (.type "str") = some b ∧ (b = false → ∀ H', Same H H' → E (.ref ad.NoFault) none H') ∧ (b = true → ∃ z : Str, v = .str z ∧ z.length ≤ 1000 ∧ (∀ tm n, pNext 60 8 (chs z) 0 = some (tm, [], n) → ∀ u H', Same H H' → FtAt ad H' u tm → Q u H') ∧ (Ref (chs z) → ∀ H', Same H H' → E (.ref ad.NoFault) none H'))
def sp__law_cell_at (K : PySem.W.Frag) : Sp := fun vs H Q _ => ∃ (a : Addr) (ns : List Int) (k : Nat), vs = [.ref a, .int k] ∧ SqL K H a (ns.map V.int) ∧ ∀ n : Int, Q (.int n) H
def sp__law_names : Sp := fun vs H Q _ => ∃ (c : Int) (m : Nat), vs = [.int c, .int m] ∧ m ≤ 11 ∧ ∀ (zs : List Str) (l : Addr) H', zs.length = m → (∀ z ∈ zs, markS z = true) → Same H H' → H' l = some (.lst (zs.map V.str)) → Q (.ref l) H'
def sp__law_leaf : Sp := fun vs H Q _ => ∃ (c : Int) (nl : Addr) (zs : List Str), vs = [.int c, .ref nl] ∧ H nl = some (.lst (zs.map V.str)) ∧ 1 ≤ zs.length ∧ zs.length ≤ 20 ∧ (∀ z ∈ zs, markS z = true) ∧ ∀ v tm H', Same H H' → TmAt H' v tm → rdT tm → szT tm = 1 → dpT tm = 0 → Q v H'
def sp__law_term (K : PySem.W.Frag) : Sp := fun vs H Q _ => ∃ (a nl : Addr) (ns : List Int) (b m : Nat) (zs : List Str), vs = [.ref a, .int b, .int m, .ref nl] ∧ SqL K H a (ns.map V.int) ∧ 1 ≤ m ∧ m ≤ 7 ∧ H nl = some (.lst (zs.map V.str)) ∧ 1 ≤ zs.length ∧ zs.length ≤ 20 ∧ (∀ z ∈ zs, markS z = true) ∧ ∀ v tm H', Same H H' → TmAt H' v tm → rdT tm → szT tm < 14 → dpT tm ≤ 6 → Q v H'
def sp__law_text (n : Nat) : Sp := fun vs H Q _ => ∃ (v : V) (tm : Tm), vs = [v] ∧ TmAt H v tm ∧ okT tm ∧ szT tm ≤ 20 ∧ dpT tm < n ∧ ∀ H', Same H H' → Q (.str (textT tm)) H'
def sp__law_refused (K : PySem.W.Frag) : Sp := fun vs H Q _ => ∃ (v : V) (ty : Value) (b : Bool), vs = [v] ∧ (∀ H', Same H H' → TyOf K H' v ty) ∧ PySem.W.kitOne K ty (.type "str") = some b ∧ (b = true → ∃ z : Str, v = .str z ∧ z.length ≤ 1000 ∧ Ref (chs z)) ∧ ∀ H', Same H H' → Q (.bl true) H'
def sp__law_plain_odd : Sp := fun vs H Q _ => ∃ (a b : Str), vs = [.str a, .str b] ∧ markS a = true ∧ markS b = true ∧ ∀ (l : Addr) (zs : List Str) H', Same H H' → H' l = some (.lst (zs.map V.str)) → 1 ≤ zs.length → (∀ x ∈ zs, x.length ≤ 1000 ∧ Ref (chs x)) → Q (.ref l) H'
def sp__law_group_odd : Sp := fun vs H Q _ => ∃ (a b : Str), vs = [.str a, .str b] ∧ markS a = true ∧ markS b = true ∧ ∀ (l : Addr) (zs : List Str) H', Same H H' → H' l = some (.lst (zs.map V.str)) → 1 ≤ zs.length → (∀ x ∈ zs, x.length ≤ 1000 ∧ Ref (chs x)) → Q (.ref l) H'
def sp__law_odd (K : PySem.W.Frag) : Sp := fun vs H Q _ => ∃ (s : Addr) (ns : List Int) (c : Int) (nl : Addr) (zs : List Str), vs = [.ref s, .int c, .ref nl] ∧ SqL K H s (ns.map V.int) ∧ H nl = some (.lst (zs.map V.str)) ∧ zs.length = 4 ∧ (∀ z ∈ zs, markS z = true) ∧ ∀ (v : V) (ty : Value) (b : Bool) H', Same H H' → (∀ H2, Same H' H2 → TyOf K H2 v ty) → PySem.W.kitOne K ty (.type "str") = some b → (b = true → ∃ z : Str, v = .str z ∧ z.length ≤ 1000 ∧ Ref (chs z)) → Q v H'
def sp_law (K : PySem.W.Frag) : Sp := fun vs H Q _ => ∃ (a : Addr) (ns : List Int), vs = [.ref a] ∧ SqL K H a (ns.map V.int) ∧ ns.length ≤ 63 ∧ ∀ H', Q (.bl true) H'
theorem nx8 (l : List Nat) (n : Nat) : pNext 60 8 l n = if 60 < n + 1 then none else (pSign 40 (l.dropWhile lets)).bind fun r => (pInside (pNext 60 7) 60 (l.takeWhile lets) r (n + 1)).bind fun x => (pSign 41 x.2.1).bind fun r => some (x.1, r, x.2.2) := next_go 60 7 l n
theorem nx7 (l : List Nat) (n : Nat) : pNext 60 7 l n = if 60 < n + 1 then none else (pSign 40 (l.dropWhile lets)).bind fun r => (pInside (pNext 60 6) 60 (l.takeWhile lets) r (n + 1)).bind fun x => (pSign 41 x.2.1).bind fun r => some (x.1, r, x.2.2) := next_go 60 6 l n
theorem nx6 (l : List Nat) (n : Nat) : pNext 60 6 l n = if 60 < n + 1 then none else (pSign 40 (l.dropWhile lets)).bind fun r => (pInside (pNext 60 5) 60 (l.takeWhile lets) r (n + 1)).bind fun x => (pSign 41 x.2.1).bind fun r => some (x.1, r, x.2.2) := next_go 60 5 l n
theorem pp61 (nx : Nx) (l : List Nat) (n : Nat) : pParts nx 61 l n = (nx l n).bind fun x => contP nx 60 [x.1] x.2.1 x.2.2 := parts_cont nx 60 l n
theorem pp60 (nx : Nx) (l : List Nat) (n : Nat) : pParts nx 60 l n = (nx l n).bind fun x => contP nx 59 [x.1] x.2.1 x.2.2 := parts_cont nx 59 l n
theorem pp59 (nx : Nx) (l : List Nat) (n : Nat) : pParts nx 59 l n = (nx l n).bind fun x => contP nx 58 [x.1] x.2.1 x.2.2 := parts_cont nx 58 l n
theorem cp_c (nx : Nx) (f : Nat) (ts : List Tm) (c : Nat) (t : List Nat) (n : Nat) : contP nx f ts (c :: t) n = if c = 44 then (pParts nx f t n).bind fun y => some (ts ++ y.1, y.2.1, y.2.2) else some (ts, c :: t, n) := by
  unfold contP
  by_cases e : c = 44
  · rw [show pSign 44 (c :: t) = some t from if_pos e, if_pos e]
  · rw [show pSign 44 (c :: t) = none from if_neg e, if_neg e]
theorem cp_n (nx : Nx) (f : Nat) (ts : List Tm) (n : Nat) : contP nx f ts [] n = some (ts, [], n) := rfl
theorem gm_c (x : Nat) (l : List Nat) : goodMark (x :: l) = decide (l.length ≤ 7) := by
  unfold goodMark
  rw [List.length_cons, decide_eq_true (show 1 ≤ l.length + 1 by omega), Bool.true_and]
  exact decide_eq_decide.mpr (by omega)
theorem gm_n : goodMark [] = false := rfl
theorem gm_m {a : Str} (h : markS a = true) : goodMark (chs a) = true := by
  rw [← good_mark (fun x hx => lets_iff.mpr (mark_let h x hx)), of_chs]
  exact h
theorem sg_c (c d : Nat) (r : List Nat) : pSign c (d :: r) = if d = c then some r else none := rfl
theorem sg_n (c : Nat) : pSign c [] = none := rfl
theorem ltD (c : Nat) : lets c = decide (97 ≤ c ∧ c ≤ 122) := rfl
theorem fgD (c : Nat) : figs c = decide (48 ≤ c ∧ c ≤ 57) := rfl
theorem up_tw {a : Str} {r : List Nat} (h : markS a = true) : (chs (Txt.upper a) ++ r).takeWhile lets = [] := by
  have e : chs (Txt.upper a) = (chs a).map (· - 32) := upper_chs h
  rw [e]
  have l := (mark_all h).1
  rw [← chs_len] at l
  cases e2 : chs a with
  | nil => rw [e2] at l; exact absurd l (by decide)
  | cons c t =>
    have hc := of_decide_eq_true (lets_iff.mpr (mark_let h c (by rw [e2]; exact List.mem_cons_self)))
    rw [List.map_cons, List.cons_append, List.takeWhile_cons, if_neg]
    exact fun z => by have := of_decide_eq_true z; omega
theorem ref_of {t : Tm} (rd : rdT t) (h : 8 ≤ dpT t ∨ 60 < szT t) : Ref (chs (textT t)) := fun tm n e => by
  obtain ⟨h1, h2, h3, h4, h5⟩ := next_is 60 8 _ _ _ _ _ e
  rw [List.append_nil] at h5
  have := text_inj rd h1 (chs_inj h5)
  subst this
  omega
mutual
theorem text_set : ∀ tm : Tm, rdT tm → ∀ c ∈ chs (textT tm), lets c = true ∨ figs c = true ∨ c = 40 ∨ c = 41 ∨ c = 44
  | .has m, o, c, hc => by
    unfold rdT at o
    rw [text_chs, show inT (.has m) = m from rfl] at hc
    simp only [List.mem_append, List.mem_cons, List.not_mem_nil, or_false] at hc
    rcases hc with hc | hc | hc | hc
    · exact .inl (lets_iff.mpr (wd_let (rd_ok (.has m) (by unfold rdT; exact o)) c hc))
    · exact .inr (.inr (.inl hc))
    · exact .inl (lets_iff.mpr (mark_let o c hc))
    · exact .inr (.inr (.inr (.inl hc)))
  | .many k m, o, c, hc => by
    have ok := rd_ok _ o
    unfold rdT at o
    rw [text_chs, show chs (inT (.many k m)) = chs (Str.ofString (toString k)) ++ 44 :: chs m from join2 _ _ []] at hc
    simp only [List.mem_append, List.mem_cons, List.not_mem_nil, or_false] at hc
    rcases hc with hc | hc | (hc | hc | hc) | hc
    · exact .inl (lets_iff.mpr (wd_let ok c hc))
    · exact .inr (.inr (.inl hc))
    · exact .inr (.inl (figs_iff.mpr ((num_chs o.1).1 c hc)))
    · exact .inr (.inr (.inr (.inr hc)))
    · exact .inl (lets_iff.mpr (mark_let o.2 c hc))
    · exact .inr (.inr (.inr (.inl hc)))
  | .pair w x y, o, c, hc => by
    have ok := rd_ok _ o
    unfold rdT at o
    rw [text_chs, show chs (inT (.pair w x y)) = chs x ++ 44 :: chs y from join2 _ _ []] at hc
    simp only [List.mem_append, List.mem_cons, List.not_mem_nil, or_false] at hc
    rcases hc with hc | hc | (hc | hc | hc) | hc
    · exact .inl (lets_iff.mpr (wd_let ok c hc))
    · exact .inr (.inr (.inl hc))
    · exact .inl (lets_iff.mpr (mark_let o.2.1 c hc))
    · exact .inr (.inr (.inr (.inr hc)))
    · exact .inl (lets_iff.mpr (mark_let o.2.2 c hc))
    · exact .inr (.inr (.inr (.inl hc)))
  | .joint b ps, o, c, hc => by
    have ok := rd_ok _ o
    unfold rdT at o
    rw [text_chs, show inT (.joint b ps) = Str.join "," (ps.map textT) from rfl] at hc
    simp only [List.mem_append, List.mem_cons, List.not_mem_nil, or_false] at hc
    rcases hc with hc | hc | hc | hc
    · exact .inl (lets_iff.mpr (wd_let ok c hc))
    · exact .inr (.inr (.inl hc))
    · exact texts_set ps o.2 c hc
    · exact .inr (.inr (.inr (.inl hc)))
  | .not p, o, c, hc => by
    have ok := rd_ok _ o
    unfold rdT at o
    rw [text_chs, show inT (.not p) = textT p from rfl] at hc
    simp only [List.mem_append, List.mem_cons, List.not_mem_nil, or_false] at hc
    rcases hc with hc | hc | hc | hc
    · exact .inl (lets_iff.mpr (wd_let ok c hc))
    · exact .inr (.inr (.inl hc))
    · exact text_set p o c hc
    · exact .inr (.inr (.inr (.inl hc)))
theorem texts_set : ∀ ps : List Tm, rdL ps → ∀ c ∈ chs (Str.join "," (ps.map textT)), lets c = true ∨ figs c = true ∨ c = 40 ∨ c = 41 ∨ c = 44
  | [], _, c, hc => nomatch hc
  | [p], o, c, hc => by
    unfold rdL at o
    exact text_set p o.1 c hc
  | p :: q :: ps, o, c, hc => by
    unfold rdL at o
    rw [show chs (Str.join "," ((p :: q :: ps).map textT)) = chs (textT p) ++ 44 :: chs (Str.join "," ((q :: ps).map textT)) from join2 _ _ _] at hc
    rcases List.mem_append.mp hc with hc | hc
    · exact text_set p o.1 c hc
    · rcases List.mem_cons.mp hc with hc | hc
      · exact .inr (.inr (.inr (.inr hc)))
      · exact texts_set (q :: ps) o.2 c hc
end
theorem ref_sign {l : List Nat} {c : Nat} (h : c ∈ l) (h1 : lets c = false) (h2 : figs c = false) (h3 : c ≠ 40) (h4 : c ≠ 41) (h5 : c ≠ 44) : Ref l := fun tm n e => by
  obtain ⟨g1, _, _, _, g5⟩ := next_is 60 8 _ _ _ _ _ e
  rw [List.append_nil] at g5
  rcases text_set tm g1 c (g5 ▸ h) with g | g | g | g | g
  · rw [h1] at g; cases g
  · rw [h2] at g; cases g
  · exact h3 g
  · exact h4 g
  · exact h5 g
theorem one_is (a : Str) : Str.ofString "has(" ++ a ++ Str.ofString ")" = textT (.has a) := by
  apply chs_inj
  rw [text_chs, chs_app, chs_app, show chs (Str.ofString "has(") = [104, 97, 115, 40] by decide +kernel, show chs (wdT (.has a)) = [104, 97, 115] from (show chs "has" = [104, 97, 115] by decide +kernel), show chs (Str.ofString ")") = [41] by decide +kernel, show inT (.has a) = a from rfl]
  simp
theorem seven_no {a : Str} (ha : markS a = true) (b : Bool) (s : Str) (hs : s = wJ b ++ Str.ofString "(") : Ref (chs (s ++ Str.join "," (List.replicate 7 (textT (.has a))) ++ Str.ofString ")")) := by
  have rd : ∀ p ∈ List.replicate 7 (Tm.has a), rdT p := fun p hp => by rw [(List.mem_replicate.mp hp).2]; unfold rdT; exact ha
  have e : chs (s ++ Str.join "," (List.replicate 7 (textT (.has a))) ++ Str.ofString ")") = chs (wJ b) ++ 40 :: (chs (Str.join "," ((List.replicate 7 (Tm.has a)).map textT)) ++ 41 :: []) := by
    rw [hs, chs_app, chs_app, chs_app, show chs (Str.ofString "(") = [40] by decide +kernel, show chs (Str.ofString ")") = [41] by decide +kernel, List.map_replicate]
    simp
  intro tm n
  obtain ⟨h1, h2⟩ := run_eq (p := lets) (w := chs (wJ b)) (r := 40 :: (chs (Str.join "," ((List.replicate 7 (Tm.has a)).map textT)) ++ 41 :: [])) (fun c hc => by cases b <;> revert c <;> decide +kernel) fun c t e => by cases e; decide
  have eP := parts_of (next_of 60 7) (List.replicate 7 (Tm.has a)) 61 [41] 1 (List.cons_ne_nil _ _) (by rw [List.length_replicate]; decide) (rdL_of rd) (by simp [List.replicate, dpL, dpT]) (by simp [List.replicate, szL, szT]) rfl
  have eJ : ∀ b, pJoint (pNext 60 7) 60 b (chs (Str.join "," ((List.replicate 7 (Tm.has a)).map textT)) ++ 41 :: []) 1 = none := fun b => by
    rw [joint_eq, eP, Option.bind_some]
    unfold onlyN
    rw [if_neg (by rw [show (List.replicate 7 (Tm.has a), [41], 1 + szL (List.replicate 7 (Tm.has a))).fst.length = 7 from List.length_replicate]; decide)]
    rfl
  have eI : pInside (pNext 60 7) 60 (chs (wJ b)) (chs (Str.join "," ((List.replicate 7 (Tm.has a)).map textT)) ++ 41 :: []) 1 = none := by
    unfold pInside
    cases b with
    | true => rw [show chs (wJ true) = wAll by decide +kernel, if_neg (by decide), if_neg (by decide), if_neg (by decide), if_pos rfl]; exact eJ true
    | false => rw [show chs (wJ false) = wAny by decide +kernel, if_neg (by decide), if_neg (by decide), if_neg (by decide), if_neg (by decide), if_pos rfl]; exact eJ false
  rw [e, nx8, h1, h2, if_neg (by decide), sign_of, Option.bind_some, eI]
  nofun
def nots : Nat → Tm → Tm
  | 0, t => t
  | k + 1, t => .not (nots k t)
theorem nots_rd {t : Tm} (h : rdT t) : ∀ k, rdT (nots k t)
  | 0 => h
  | k + 1 => by show rdT (.not (nots k t)); unfold rdT; exact nots_rd h k
theorem nots_dp (t : Tm) : ∀ k, dpT (nots k t) = dpT t + k
  | 0 => rfl
  | k + 1 => by show dpT (.not (nots k t)) = _; rw [dpT, nots_dp t k]; omega
theorem nots_sz (t : Tm) : ∀ k, szT (nots k t) = szT t + k
  | 0 => rfl
  | k + 1 => by show szT (.not (nots k t)) = _; rw [szT, nots_sz t k]; omega
theorem not_text (p : Tm) : chs (textT (.not p)) = [110, 111, 116, 40] ++ (chs (textT p) ++ [41]) := by
  rw [text_chs, show chs (wdT (.not p)) = [110, 111, 116] from (show chs "not" = [110, 111, 116] by decide +kernel), show inT (.not p) = textT p from rfl]
  rfl
theorem nots8 (a : Str) : Txt.mul (Str.ofString "not(") 8 ++ textT (.has a) ++ Txt.mul (Str.ofString ")") 8 = textT (nots 8 (.has a)) := by
  apply chs_inj
  simp only [nots, not_text, chs_app]
  rw [show chs (Txt.mul (Str.ofString "not(") 8) = [110, 111, 116, 40, 110, 111, 116, 40, 110, 111, 116, 40, 110, 111, 116, 40, 110, 111, 116, 40, 110, 111, 116, 40, 110, 111, 116, 40, 110, 111, 116, 40] by decide +kernel, show chs (Txt.mul (Str.ofString ")") 8) = [41, 41, 41, 41, 41, 41, 41, 41] by decide +kernel]
  simp
theorem nots7 (a : Str) : Txt.mul (Str.ofString "not(") 7 ++ textT (.has a) ++ Txt.mul (Str.ofString ")") 7 = textT (nots 7 (.has a)) := by
  apply chs_inj
  simp only [nots, not_text, chs_app]
  rw [show chs (Txt.mul (Str.ofString "not(") 7) = [110, 111, 116, 40, 110, 111, 116, 40, 110, 111, 116, 40, 110, 111, 116, 40, 110, 111, 116, 40, 110, 111, 116, 40, 110, 111, 116, 40] by decide +kernel, show chs (Txt.mul (Str.ofString ")") 7) = [41, 41, 41, 41, 41, 41, 41] by decide +kernel]
  simp
def wideL (a : Str) (m : Nat) : Tm := .joint true (List.replicate 4 (.joint false [.has a, .has a]) ++ [.joint false (List.replicate m (.has a))])
def wideT (a : Str) (m : Nat) : Tm := .joint true [.joint true (List.replicate 6 (.joint false (List.replicate 6 (.has a)))), wideL a m]
theorem wr_any (zs : List Str) : Str.ofString "any(" ++ Str.join "," zs ++ Str.ofString ")" = wr "any" zs := by
  unfold wr
  rw [show Str.ofString "any(" = ("any" : Str) ++ "(" by decide +kernel]
theorem joint_text (b : Bool) (ps : List Tm) : textT (.joint b ps) = wr (wJ b) (ps.map textT) := by
  unfold textT
  rw [textL_map]
theorem join_snoc : ∀ (zs : List Str) (y : Str), zs ≠ [] → Str.join "," (zs ++ [y]) = Str.join "," zs ++ "," ++ y
  | [], _, h => absurd rfl h
  | [x], y, _ => rfl
  | x :: z :: zs, y, _ => by
    have ih := join_snoc (z :: zs) y (List.cons_ne_nil _ _)
    show x ++ "," ++ Str.join "," (z :: zs ++ [y]) = x ++ "," ++ Str.join "," (z :: zs) ++ "," ++ y
    rw [ih]
    simp only [Str.append_assoc]
theorem join_two (x y : Str) : Str.join "," [x, y] = x ++ "," ++ y := rfl
theorem wide_text (a : Str) (m : Nat) : Str.ofString "all(all(" ++ Str.join "," (List.replicate 6 (Str.ofString "any(" ++ Str.join "," (List.replicate 6 (textT (.has a))) ++ Str.ofString ")")) ++ Str.ofString ")," ++ (Str.ofString "all(" ++ Str.join "," (List.replicate 4 (Str.ofString "any(" ++ textT (.has a) ++ Str.ofString "," ++ textT (.has a) ++ Str.ofString ")")) ++ Str.ofString ",any(" ++ Str.join "," (List.replicate m (textT (.has a))) ++ Str.ofString "))") ++ Str.ofString ")" = textT (wideT a m) := by
  have q : Str.ofString "any(" ++ textT (.has a) ++ Str.ofString "," ++ textT (.has a) ++ Str.ofString ")" = textT (.joint false [.has a, .has a]) := by
    rw [joint_text]
    unfold wr
    show _ = ("any" : Str) ++ "(" ++ (textT (.has a) ++ "," ++ textT (.has a)) ++ ")"
    rw [show Str.ofString "any(" = ("any" : Str) ++ "(" by decide +kernel]
    simp only [Str.append_assoc]
  have s : Str.ofString "any(" ++ Str.join "," (List.replicate 6 (textT (.has a))) ++ Str.ofString ")" = textT (.joint false (List.replicate 6 (.has a))) := by
    rw [joint_text, List.map_replicate]
    exact wr_any _
  have l : textT (wideL a m) = wr "all" (List.replicate 4 (textT (.joint false [.has a, .has a])) ++ [wr "any" (List.replicate m (textT (.has a)))]) := by
    have jm : textT (.joint false (List.replicate m (.has a))) = wr "any" (List.replicate m (textT (.has a))) := by
      rw [joint_text, List.map_replicate]
      rfl
    unfold wideL
    rw [joint_text, List.map_append, List.map_replicate, List.map_cons, List.map_nil, jm]
    rfl
  unfold wideT
  rw [q, s, joint_text true, List.map_cons, List.map_cons, List.map_nil, l, joint_text true, List.map_replicate]
  unfold wr
  rw [join_snoc (List.replicate 4 _) _ (by intro z; cases z), join_two]
  generalize Str.join "," (List.replicate 6 (textT (.joint false (List.replicate 6 (.has a))))) = j6
  generalize Str.join "," (List.replicate 4 (textT (.joint false [.has a, .has a]))) = j4
  generalize Str.join "," (List.replicate m (textT (.has a))) = jm
  rw [show Str.ofString "all(all(" = ("all" : Str) ++ "(" ++ wJ true ++ "(" by decide +kernel, show Str.ofString ")," = (")" : Str) ++ "," by decide +kernel, show Str.ofString "all(" = ("all" : Str) ++ "(" by decide +kernel, show Str.ofString ",any(" = ("," : Str) ++ "any" ++ "(" by decide +kernel, show Str.ofString "))" = (")" : Str) ++ ")" by decide +kernel, show wJ true = ("all" : Str) from rfl]
  simp only [Str.append_assoc]
theorem wide_rd {a : Str} {m : Nat} (ha : markS a = true) (h2 : 2 ≤ m) (h6 : m ≤ 6) : rdT (wideT a m) := by
  have h1 : rdT (.has a) := by unfold rdT; exact ha
  have rep : ∀ k, rdL (List.replicate k (Tm.has a)) := fun k => rdL_of fun p hp => by rw [(List.mem_replicate.mp hp).2]; exact h1
  have j : ∀ k b, 2 ≤ k → k ≤ 6 → rdT (.joint b (List.replicate k (Tm.has a))) := fun k b x y => by unfold rdT; rw [List.length_replicate]; exact ⟨⟨x, y⟩, rep k⟩
  unfold wideT rdT
  refine ⟨⟨(show 2 ≤ 2 by decide), (show 2 ≤ 6 by decide)⟩, rdL_of fun p hp => ?_⟩
  simp only [List.mem_cons, List.not_mem_nil, or_false] at hp
  rcases hp with rfl | rfl
  · unfold rdT
    rw [List.length_replicate]
    exact ⟨by decide, rdL_of fun p hp => by rw [(List.mem_replicate.mp hp).2]; exact j 6 false (by decide) (by decide)⟩
  · unfold wideL rdT
    rw [List.length_append, List.length_replicate]
    refine ⟨⟨(show 2 ≤ 4 + 1 by decide), (show 4 + 1 ≤ 6 by decide)⟩, rdL_of fun p hp => ?_⟩
    rcases List.mem_append.mp hp with hp | hp
    · rw [(List.mem_replicate.mp hp).2]
      exact j 2 false (by decide) (by decide)
    · rw [List.mem_singleton.mp hp]
      exact j m false h2 h6
theorem szL_rep (p : Tm) : ∀ k, szL (List.replicate k p) = k * szT p
  | 0 => by rw [Nat.zero_mul]; show szL [] = 0; rw [szL]
  | k + 1 => by
    rw [List.replicate_succ, szL, szL_rep p k, Nat.succ_mul]
    omega
theorem wide_sz (a : Str) (m : Nat) : szT (wideT a m) = 58 + m := by
  unfold wideT wideL
  simp only [szT, szL, szL_app, szL_rep]
  omega
theorem wide_dp (a : Str) (m : Nat) : dpT (wideT a m) ≤ 4 := by
  have rep : ∀ k, dpL (List.replicate k (Tm.has a)) ≤ 0 := fun k => dpL_le fun p hp => by rw [(List.mem_replicate.mp hp).2, dpT]; exact Nat.le_refl _
  have j : ∀ k b, dpT (.joint b (List.replicate k (Tm.has a))) ≤ 1 := fun k b => by have := rep k; rw [dpT]; omega
  have l2 : dpL [Tm.has a, Tm.has a] ≤ 0 := rep 2
  unfold wideT wideL
  rw [dpT]
  have : dpL [Tm.joint true (List.replicate 6 (.joint false (List.replicate 6 (.has a)))), Tm.joint true (List.replicate 4 (.joint false [.has a, .has a]) ++ [.joint false (List.replicate m (.has a))])] ≤ 2 := dpL_le fun p hp => by
    simp only [List.mem_cons, List.not_mem_nil, or_false] at hp
    rcases hp with rfl | rfl
    · rw [dpT]
      have : dpL (List.replicate 6 (Tm.joint false (List.replicate 6 (.has a)))) ≤ 1 := dpL_le fun p hp => by rw [(List.mem_replicate.mp hp).2]; exact j 6 false
      omega
    · rw [dpT]
      have : dpL (List.replicate 4 (Tm.joint false [.has a, .has a]) ++ [.joint false (List.replicate m (.has a))]) ≤ 1 := dpL_le fun p hp => by
        rcases List.mem_append.mp hp with hp | hp
        · rw [(List.mem_replicate.mp hp).2, dpT]; omega
        · rw [List.mem_singleton.mp hp]; exact j m false
      omega
  omega
theorem rep_sum (z : Str) : ∀ k, ((List.replicate k z).map (·.length)).sum = k * z.length
  | 0 => by rw [Nat.zero_mul]; rfl
  | k + 1 => by rw [List.replicate_succ, List.map_cons, List.sum_cons, rep_sum z k, Nat.succ_mul]; omega
theorem one_len13 {a : Str} (h : markS a = true) : (textT (.has a)).length ≤ 13 := by
  have := (mark_all h).2.1
  rw [← one_is, Str.length_append, Str.length_append, show (Str.ofString "has(").length = 4 by decide +kernel, show (Str.ofString ")").length = 1 by decide +kernel]
  omega
mutual
theorem text30 : ∀ tm : Tm, rdT tm → (textT tm).length ≤ 30 * szT tm
  | .has m, o => by
    unfold rdT at o
    have := one_len13 o
    unfold szT
    omega
  | .many k m, o => by
    unfold rdT at o
    have h1 := wr_len "many" [Str.ofString (toString k), m]
    have h2 := (mark_all o.2).2.1
    have h3 := (num_chs o.1).2.2.1
    rw [chs_len] at h3
    rw [show ("many" : Str).length = 4 by decide +kernel] at h1
    simp only [List.map_cons, List.map_nil, List.sum_cons, List.sum_nil, List.length_cons, List.length_nil] at h1
    unfold textT szT
    omega
  | .pair w a b, o => by
    unfold rdT at o
    have h1 := wr_len w [a, b]
    have h2 := (mark_all o.2.1).2.1
    have h3 := (mark_all o.2.2).2.1
    have h4 : w.length ≤ 6 := by rcases o.1 with rfl | rfl | rfl <;> decide +kernel
    simp only [List.map_cons, List.map_nil, List.sum_cons, List.sum_nil, List.length_cons, List.length_nil] at h1
    unfold textT szT
    omega
  | .joint b ps, o => by
    unfold rdT at o
    have h1 := wr_len (wJ b) (textL ps)
    have h2 := texts30 ps o.2
    have h3 : (wJ b).length = 3 := by cases b <;> decide +kernel
    have h4 : (textL ps).length = ps.length := by rw [textL_map, List.length_map]
    have h5 := o.1.2
    unfold textT szT
    omega
  | .not p, o => by
    unfold rdT at o
    have h1 := wr_len "not" [textT p]
    have h2 := text30 p o
    rw [show ("not" : Str).length = 3 by decide +kernel] at h1
    simp only [List.map_cons, List.map_nil, List.sum_cons, List.sum_nil, List.length_cons, List.length_nil] at h1
    unfold textT szT
    omega
theorem texts30 : ∀ ps : List Tm, rdL ps → ((textL ps).map (·.length)).sum ≤ 30 * szL ps
  | [], _ => by unfold textL szL; exact Nat.le_refl _
  | p :: ps, o => by
    unfold rdL at o
    have h1 := text30 p o.1
    have h2 := texts30 ps o.2
    unfold textL szL
    rw [List.map_cons, List.sum_cons]
    omega
end
theorem signs_no : ∀ c ∈ (Str.ofString "!#$ .;:[]{}<>=+*/|~^@&_-AZ\n\t").cps.toList, lets c = false ∧ figs c = false ∧ c ≠ 40 ∧ c ≠ 41 ∧ c ≠ 44 := by decide +kernel
theorem po0 {a b : Str} (ha : markS a = true) (hb : markS b = true) : Ref (chs (Str.ofString "")) := by
  intro tm n
  have ga := gm_m ha
  have gb := gm_m hb
  have a41 := fun r => tw_mark (r := r) (c := 41) ha (by decide)
  have a44 := fun r => tw_mark (r := r) (c := 44) ha (by decide)
  have b41 := fun r => tw_mark (r := r) (c := 41) hb (by decide)
  have b44 := fun r => tw_mark (r := r) (c := 44) hb (by decide)
  have a0 := tw_end ha
  have au := fun r => up_tw (r := r) ha
  have af := fun r => mark_fig (r := r) ha
  try simp only [chs_app, show chs (Str.ofString "") = [] by decide +kernel, List.cons_append, List.nil_append, List.append_assoc, List.append_nil]
  simp [nx8, nx7, nx6, List.takeWhile_cons, List.dropWhile_cons, List.takeWhile_nil, List.dropWhile_nil, ltD, fgD, sg_c, sg_n, pMark, gm_c, gm_n, cp_c, cp_n, pInside, wHas, wMany, wBefore, wUnder, wBeside, wAll, wAny, wNot, pMany, pNum, goodNum, pPair, pJoint, pp61, pp60, pp59, valN, ga, gb, a41, a44, b41, b44, a0, af, au]
theorem po1 {a b : Str} (ha : markS a = true) (hb : markS b = true) : Ref (chs (Str.ofString "has")) := by
  intro tm n
  have ga := gm_m ha
  have gb := gm_m hb
  have a41 := fun r => tw_mark (r := r) (c := 41) ha (by decide)
  have a44 := fun r => tw_mark (r := r) (c := 44) ha (by decide)
  have b41 := fun r => tw_mark (r := r) (c := 41) hb (by decide)
  have b44 := fun r => tw_mark (r := r) (c := 44) hb (by decide)
  have a0 := tw_end ha
  have au := fun r => up_tw (r := r) ha
  have af := fun r => mark_fig (r := r) ha
  try simp only [chs_app, show chs (Str.ofString "has") = [104, 97, 115] by decide +kernel, List.cons_append, List.nil_append, List.append_assoc, List.append_nil]
  simp [nx8, nx7, nx6, List.takeWhile_cons, List.dropWhile_cons, List.takeWhile_nil, List.dropWhile_nil, ltD, fgD, sg_c, sg_n, pMark, gm_c, gm_n, cp_c, cp_n, pInside, wHas, wMany, wBefore, wUnder, wBeside, wAll, wAny, wNot, pMany, pNum, goodNum, pPair, pJoint, pp61, pp60, pp59, valN, ga, gb, a41, a44, b41, b44, a0, af, au]
theorem po2 {a b : Str} (ha : markS a = true) (hb : markS b = true) : Ref (chs (Str.ofString "has(")) := by
  intro tm n
  have ga := gm_m ha
  have gb := gm_m hb
  have a41 := fun r => tw_mark (r := r) (c := 41) ha (by decide)
  have a44 := fun r => tw_mark (r := r) (c := 44) ha (by decide)
  have b41 := fun r => tw_mark (r := r) (c := 41) hb (by decide)
  have b44 := fun r => tw_mark (r := r) (c := 44) hb (by decide)
  have a0 := tw_end ha
  have au := fun r => up_tw (r := r) ha
  have af := fun r => mark_fig (r := r) ha
  try simp only [chs_app, show chs (Str.ofString "has(") = [104, 97, 115, 40] by decide +kernel, List.cons_append, List.nil_append, List.append_assoc, List.append_nil]
  simp [nx8, nx7, nx6, List.takeWhile_cons, List.dropWhile_cons, List.takeWhile_nil, List.dropWhile_nil, ltD, fgD, sg_c, sg_n, pMark, gm_c, gm_n, cp_c, cp_n, pInside, wHas, wMany, wBefore, wUnder, wBeside, wAll, wAny, wNot, pMany, pNum, goodNum, pPair, pJoint, pp61, pp60, pp59, valN, ga, gb, a41, a44, b41, b44, a0, af, au]
theorem po3 {a b : Str} (ha : markS a = true) (hb : markS b = true) : Ref (chs (Str.ofString "has()")) := by
  intro tm n
  have ga := gm_m ha
  have gb := gm_m hb
  have a41 := fun r => tw_mark (r := r) (c := 41) ha (by decide)
  have a44 := fun r => tw_mark (r := r) (c := 44) ha (by decide)
  have b41 := fun r => tw_mark (r := r) (c := 41) hb (by decide)
  have b44 := fun r => tw_mark (r := r) (c := 44) hb (by decide)
  have a0 := tw_end ha
  have au := fun r => up_tw (r := r) ha
  have af := fun r => mark_fig (r := r) ha
  try simp only [chs_app, show chs (Str.ofString "has()") = [104, 97, 115, 40, 41] by decide +kernel, List.cons_append, List.nil_append, List.append_assoc, List.append_nil]
  simp [nx8, nx7, nx6, List.takeWhile_cons, List.dropWhile_cons, List.takeWhile_nil, List.dropWhile_nil, ltD, fgD, sg_c, sg_n, pMark, gm_c, gm_n, cp_c, cp_n, pInside, wHas, wMany, wBefore, wUnder, wBeside, wAll, wAny, wNot, pMany, pNum, goodNum, pPair, pJoint, pp61, pp60, pp59, valN, ga, gb, a41, a44, b41, b44, a0, af, au]
theorem po4 {a b : Str} (ha : markS a = true) (hb : markS b = true) : Ref (chs ((Str.ofString "has(") ++ a)) := by
  intro tm n
  have ga := gm_m ha
  have gb := gm_m hb
  have a41 := fun r => tw_mark (r := r) (c := 41) ha (by decide)
  have a44 := fun r => tw_mark (r := r) (c := 44) ha (by decide)
  have b41 := fun r => tw_mark (r := r) (c := 41) hb (by decide)
  have b44 := fun r => tw_mark (r := r) (c := 44) hb (by decide)
  have a0 := tw_end ha
  have au := fun r => up_tw (r := r) ha
  have af := fun r => mark_fig (r := r) ha
  try simp only [chs_app, show chs (Str.ofString "has(") = [104, 97, 115, 40] by decide +kernel, List.cons_append, List.nil_append, List.append_assoc, List.append_nil]
  simp [nx8, nx7, nx6, List.takeWhile_cons, List.dropWhile_cons, List.takeWhile_nil, List.dropWhile_nil, ltD, fgD, sg_c, sg_n, pMark, gm_c, gm_n, cp_c, cp_n, pInside, wHas, wMany, wBefore, wUnder, wBeside, wAll, wAny, wNot, pMany, pNum, goodNum, pPair, pJoint, pp61, pp60, pp59, valN, ga, gb, a41, a44, b41, b44, a0, af, au]
theorem po5 {a b : Str} (ha : markS a = true) (hb : markS b = true) : Ref (chs (((Str.ofString "has(") ++ a) ++ (Str.ofString "))"))) := by
  intro tm n
  have ga := gm_m ha
  have gb := gm_m hb
  have a41 := fun r => tw_mark (r := r) (c := 41) ha (by decide)
  have a44 := fun r => tw_mark (r := r) (c := 44) ha (by decide)
  have b41 := fun r => tw_mark (r := r) (c := 41) hb (by decide)
  have b44 := fun r => tw_mark (r := r) (c := 44) hb (by decide)
  have a0 := tw_end ha
  have au := fun r => up_tw (r := r) ha
  have af := fun r => mark_fig (r := r) ha
  try simp only [chs_app, show chs (Str.ofString "))") = [41, 41] by decide +kernel, show chs (Str.ofString "has(") = [104, 97, 115, 40] by decide +kernel, List.cons_append, List.nil_append, List.append_assoc, List.append_nil]
  simp [nx8, nx7, nx6, List.takeWhile_cons, List.dropWhile_cons, List.takeWhile_nil, List.dropWhile_nil, ltD, fgD, sg_c, sg_n, pMark, gm_c, gm_n, cp_c, cp_n, pInside, wHas, wMany, wBefore, wUnder, wBeside, wAll, wAny, wNot, pMany, pNum, goodNum, pPair, pJoint, pp61, pp60, pp59, valN, ga, gb, a41, a44, b41, b44, a0, af, au]
theorem po6 {a b : Str} (ha : markS a = true) (hb : markS b = true) : Ref (chs (((((Str.ofString "has(") ++ a) ++ (Str.ofString ",")) ++ b) ++ (Str.ofString ")"))) := by
  intro tm n
  have ga := gm_m ha
  have gb := gm_m hb
  have a41 := fun r => tw_mark (r := r) (c := 41) ha (by decide)
  have a44 := fun r => tw_mark (r := r) (c := 44) ha (by decide)
  have b41 := fun r => tw_mark (r := r) (c := 41) hb (by decide)
  have b44 := fun r => tw_mark (r := r) (c := 44) hb (by decide)
  have a0 := tw_end ha
  have au := fun r => up_tw (r := r) ha
  have af := fun r => mark_fig (r := r) ha
  try simp only [chs_app, show chs (Str.ofString ")") = [41] by decide +kernel, show chs (Str.ofString ",") = [44] by decide +kernel, show chs (Str.ofString "has(") = [104, 97, 115, 40] by decide +kernel, List.cons_append, List.nil_append, List.append_assoc, List.append_nil]
  simp [nx8, nx7, nx6, List.takeWhile_cons, List.dropWhile_cons, List.takeWhile_nil, List.dropWhile_nil, ltD, fgD, sg_c, sg_n, pMark, gm_c, gm_n, cp_c, cp_n, pInside, wHas, wMany, wBefore, wUnder, wBeside, wAll, wAny, wNot, pMany, pNum, goodNum, pPair, pJoint, pp61, pp60, pp59, valN, ga, gb, a41, a44, b41, b44, a0, af, au]
theorem po7 {a b : Str} (ha : markS a = true) (hb : markS b = true) : Ref (chs (((Str.ofString "has (") ++ a) ++ (Str.ofString ")"))) := by
  intro tm n
  have ga := gm_m ha
  have gb := gm_m hb
  have a41 := fun r => tw_mark (r := r) (c := 41) ha (by decide)
  have a44 := fun r => tw_mark (r := r) (c := 44) ha (by decide)
  have b41 := fun r => tw_mark (r := r) (c := 41) hb (by decide)
  have b44 := fun r => tw_mark (r := r) (c := 44) hb (by decide)
  have a0 := tw_end ha
  have au := fun r => up_tw (r := r) ha
  have af := fun r => mark_fig (r := r) ha
  try simp only [chs_app, show chs (Str.ofString ")") = [41] by decide +kernel, show chs (Str.ofString "has (") = [104, 97, 115, 32, 40] by decide +kernel, List.cons_append, List.nil_append, List.append_assoc, List.append_nil]
  simp [nx8, nx7, nx6, List.takeWhile_cons, List.dropWhile_cons, List.takeWhile_nil, List.dropWhile_nil, ltD, fgD, sg_c, sg_n, pMark, gm_c, gm_n, cp_c, cp_n, pInside, wHas, wMany, wBefore, wUnder, wBeside, wAll, wAny, wNot, pMany, pNum, goodNum, pPair, pJoint, pp61, pp60, pp59, valN, ga, gb, a41, a44, b41, b44, a0, af, au]
theorem po8 {a b : Str} (ha : markS a = true) (hb : markS b = true) : Ref (chs (((Str.ofString "Has(") ++ a) ++ (Str.ofString ")"))) := by
  intro tm n
  have ga := gm_m ha
  have gb := gm_m hb
  have a41 := fun r => tw_mark (r := r) (c := 41) ha (by decide)
  have a44 := fun r => tw_mark (r := r) (c := 44) ha (by decide)
  have b41 := fun r => tw_mark (r := r) (c := 41) hb (by decide)
  have b44 := fun r => tw_mark (r := r) (c := 44) hb (by decide)
  have a0 := tw_end ha
  have au := fun r => up_tw (r := r) ha
  have af := fun r => mark_fig (r := r) ha
  try simp only [chs_app, show chs (Str.ofString ")") = [41] by decide +kernel, show chs (Str.ofString "Has(") = [72, 97, 115, 40] by decide +kernel, List.cons_append, List.nil_append, List.append_assoc, List.append_nil]
  simp [nx8, nx7, nx6, List.takeWhile_cons, List.dropWhile_cons, List.takeWhile_nil, List.dropWhile_nil, ltD, fgD, sg_c, sg_n, pMark, gm_c, gm_n, cp_c, cp_n, pInside, wHas, wMany, wBefore, wUnder, wBeside, wAll, wAny, wNot, pMany, pNum, goodNum, pPair, pJoint, pp61, pp60, pp59, valN, ga, gb, a41, a44, b41, b44, a0, af, au]
theorem po9 {a b : Str} (ha : markS a = true) (hb : markS b = true) : Ref (chs (((Str.ofString "has(") ++ (Txt.upper a)) ++ (Str.ofString ")"))) := by
  intro tm n
  have ga := gm_m ha
  have gb := gm_m hb
  have a41 := fun r => tw_mark (r := r) (c := 41) ha (by decide)
  have a44 := fun r => tw_mark (r := r) (c := 44) ha (by decide)
  have b41 := fun r => tw_mark (r := r) (c := 41) hb (by decide)
  have b44 := fun r => tw_mark (r := r) (c := 44) hb (by decide)
  have a0 := tw_end ha
  have au := fun r => up_tw (r := r) ha
  have af := fun r => mark_fig (r := r) ha
  try simp only [chs_app, show chs (Str.ofString ")") = [41] by decide +kernel, show chs (Str.ofString "has(") = [104, 97, 115, 40] by decide +kernel, List.cons_append, List.nil_append, List.append_assoc, List.append_nil]
  simp [nx8, nx7, nx6, List.takeWhile_cons, List.dropWhile_cons, List.takeWhile_nil, List.dropWhile_nil, ltD, fgD, sg_c, sg_n, pMark, gm_c, gm_n, cp_c, cp_n, pInside, wHas, wMany, wBefore, wUnder, wBeside, wAll, wAny, wNot, pMany, pNum, goodNum, pPair, pJoint, pp61, pp60, pp59, valN, ga, gb, a41, a44, b41, b44, a0, af, au]
theorem po10 {a b : Str} (ha : markS a = true) (hb : markS b = true) : Ref (chs (Str.ofString "has(a1)")) := by
  intro tm n
  have ga := gm_m ha
  have gb := gm_m hb
  have a41 := fun r => tw_mark (r := r) (c := 41) ha (by decide)
  have a44 := fun r => tw_mark (r := r) (c := 44) ha (by decide)
  have b41 := fun r => tw_mark (r := r) (c := 41) hb (by decide)
  have b44 := fun r => tw_mark (r := r) (c := 44) hb (by decide)
  have a0 := tw_end ha
  have au := fun r => up_tw (r := r) ha
  have af := fun r => mark_fig (r := r) ha
  try simp only [chs_app, show chs (Str.ofString "has(a1)") = [104, 97, 115, 40, 97, 49, 41] by decide +kernel, List.cons_append, List.nil_append, List.append_assoc, List.append_nil]
  simp [nx8, nx7, nx6, List.takeWhile_cons, List.dropWhile_cons, List.takeWhile_nil, List.dropWhile_nil, ltD, fgD, sg_c, sg_n, pMark, gm_c, gm_n, cp_c, cp_n, pInside, wHas, wMany, wBefore, wUnder, wBeside, wAll, wAny, wNot, pMany, pNum, goodNum, pPair, pJoint, pp61, pp60, pp59, valN, ga, gb, a41, a44, b41, b44, a0, af, au]
theorem po11 {a b : Str} (ha : markS a = true) (hb : markS b = true) : Ref (chs (Str.ofString "has(abcdefghi)")) := by
  intro tm n
  have ga := gm_m ha
  have gb := gm_m hb
  have a41 := fun r => tw_mark (r := r) (c := 41) ha (by decide)
  have a44 := fun r => tw_mark (r := r) (c := 44) ha (by decide)
  have b41 := fun r => tw_mark (r := r) (c := 41) hb (by decide)
  have b44 := fun r => tw_mark (r := r) (c := 44) hb (by decide)
  have a0 := tw_end ha
  have au := fun r => up_tw (r := r) ha
  have af := fun r => mark_fig (r := r) ha
  try simp only [chs_app, show chs (Str.ofString "has(abcdefghi)") = [104, 97, 115, 40, 97, 98, 99, 100, 101, 102, 103, 104, 105, 41] by decide +kernel, List.cons_append, List.nil_append, List.append_assoc, List.append_nil]
  simp [nx8, nx7, nx6, List.takeWhile_cons, List.dropWhile_cons, List.takeWhile_nil, List.dropWhile_nil, ltD, fgD, sg_c, sg_n, pMark, gm_c, gm_n, cp_c, cp_n, pInside, wHas, wMany, wBefore, wUnder, wBeside, wAll, wAny, wNot, pMany, pNum, goodNum, pPair, pJoint, pp61, pp60, pp59, valN, ga, gb, a41, a44, b41, b44, a0, af, au]
theorem po12 {a b : Str} (ha : markS a = true) (hb : markS b = true) : Ref (chs (((Str.ofString " has(") ++ a) ++ (Str.ofString ")"))) := by
  intro tm n
  have ga := gm_m ha
  have gb := gm_m hb
  have a41 := fun r => tw_mark (r := r) (c := 41) ha (by decide)
  have a44 := fun r => tw_mark (r := r) (c := 44) ha (by decide)
  have b41 := fun r => tw_mark (r := r) (c := 41) hb (by decide)
  have b44 := fun r => tw_mark (r := r) (c := 44) hb (by decide)
  have a0 := tw_end ha
  have au := fun r => up_tw (r := r) ha
  have af := fun r => mark_fig (r := r) ha
  try simp only [chs_app, show chs (Str.ofString ")") = [41] by decide +kernel, show chs (Str.ofString " has(") = [32, 104, 97, 115, 40] by decide +kernel, List.cons_append, List.nil_append, List.append_assoc, List.append_nil]
  simp [nx8, nx7, nx6, List.takeWhile_cons, List.dropWhile_cons, List.takeWhile_nil, List.dropWhile_nil, ltD, fgD, sg_c, sg_n, pMark, gm_c, gm_n, cp_c, cp_n, pInside, wHas, wMany, wBefore, wUnder, wBeside, wAll, wAny, wNot, pMany, pNum, goodNum, pPair, pJoint, pp61, pp60, pp59, valN, ga, gb, a41, a44, b41, b44, a0, af, au]
theorem po13 {a b : Str} (ha : markS a = true) (hb : markS b = true) : Ref (chs (((Str.ofString "has(") ++ a) ++ (Str.ofString ") "))) := by
  intro tm n
  have ga := gm_m ha
  have gb := gm_m hb
  have a41 := fun r => tw_mark (r := r) (c := 41) ha (by decide)
  have a44 := fun r => tw_mark (r := r) (c := 44) ha (by decide)
  have b41 := fun r => tw_mark (r := r) (c := 41) hb (by decide)
  have b44 := fun r => tw_mark (r := r) (c := 44) hb (by decide)
  have a0 := tw_end ha
  have au := fun r => up_tw (r := r) ha
  have af := fun r => mark_fig (r := r) ha
  try simp only [chs_app, show chs (Str.ofString ") ") = [41, 32] by decide +kernel, show chs (Str.ofString "has(") = [104, 97, 115, 40] by decide +kernel, List.cons_append, List.nil_append, List.append_assoc, List.append_nil]
  simp [nx8, nx7, nx6, List.takeWhile_cons, List.dropWhile_cons, List.takeWhile_nil, List.dropWhile_nil, ltD, fgD, sg_c, sg_n, pMark, gm_c, gm_n, cp_c, cp_n, pInside, wHas, wMany, wBefore, wUnder, wBeside, wAll, wAny, wNot, pMany, pNum, goodNum, pPair, pJoint, pp61, pp60, pp59, valN, ga, gb, a41, a44, b41, b44, a0, af, au]
theorem po14 {a b : Str} (ha : markS a = true) (hb : markS b = true) : Ref (chs (((((Str.ofString "has(") ++ a) ++ (Str.ofString "),has(")) ++ b) ++ (Str.ofString ")"))) := by
  intro tm n
  have ga := gm_m ha
  have gb := gm_m hb
  have a41 := fun r => tw_mark (r := r) (c := 41) ha (by decide)
  have a44 := fun r => tw_mark (r := r) (c := 44) ha (by decide)
  have b41 := fun r => tw_mark (r := r) (c := 41) hb (by decide)
  have b44 := fun r => tw_mark (r := r) (c := 44) hb (by decide)
  have a0 := tw_end ha
  have au := fun r => up_tw (r := r) ha
  have af := fun r => mark_fig (r := r) ha
  try simp only [chs_app, show chs (Str.ofString ")") = [41] by decide +kernel, show chs (Str.ofString "),has(") = [41, 44, 104, 97, 115, 40] by decide +kernel, show chs (Str.ofString "has(") = [104, 97, 115, 40] by decide +kernel, List.cons_append, List.nil_append, List.append_assoc, List.append_nil]
  simp [nx8, nx7, nx6, List.takeWhile_cons, List.dropWhile_cons, List.takeWhile_nil, List.dropWhile_nil, ltD, fgD, sg_c, sg_n, pMark, gm_c, gm_n, cp_c, cp_n, pInside, wHas, wMany, wBefore, wUnder, wBeside, wAll, wAny, wNot, pMany, pNum, goodNum, pPair, pJoint, pp61, pp60, pp59, valN, ga, gb, a41, a44, b41, b44, a0, af, au]
theorem po15 {a b : Str} (ha : markS a = true) (hb : markS b = true) : Ref (chs (((Str.ofString "many(") ++ a) ++ (Str.ofString ")"))) := by
  intro tm n
  have ga := gm_m ha
  have gb := gm_m hb
  have a41 := fun r => tw_mark (r := r) (c := 41) ha (by decide)
  have a44 := fun r => tw_mark (r := r) (c := 44) ha (by decide)
  have b41 := fun r => tw_mark (r := r) (c := 41) hb (by decide)
  have b44 := fun r => tw_mark (r := r) (c := 44) hb (by decide)
  have a0 := tw_end ha
  have au := fun r => up_tw (r := r) ha
  have af := fun r => mark_fig (r := r) ha
  try simp only [chs_app, show chs (Str.ofString ")") = [41] by decide +kernel, show chs (Str.ofString "many(") = [109, 97, 110, 121, 40] by decide +kernel, List.cons_append, List.nil_append, List.append_assoc, List.append_nil]
  simp [nx8, nx7, nx6, List.takeWhile_cons, List.dropWhile_cons, List.takeWhile_nil, List.dropWhile_nil, ltD, fgD, sg_c, sg_n, pMark, gm_c, gm_n, cp_c, cp_n, pInside, wHas, wMany, wBefore, wUnder, wBeside, wAll, wAny, wNot, pMany, pNum, goodNum, pPair, pJoint, pp61, pp60, pp59, valN, ga, gb, a41, a44, b41, b44, a0, af, au]
theorem po16 {a b : Str} (ha : markS a = true) (hb : markS b = true) : Ref (chs (((Str.ofString "many(0,") ++ a) ++ (Str.ofString ")"))) := by
  intro tm n
  have ga := gm_m ha
  have gb := gm_m hb
  have a41 := fun r => tw_mark (r := r) (c := 41) ha (by decide)
  have a44 := fun r => tw_mark (r := r) (c := 44) ha (by decide)
  have b41 := fun r => tw_mark (r := r) (c := 41) hb (by decide)
  have b44 := fun r => tw_mark (r := r) (c := 44) hb (by decide)
  have a0 := tw_end ha
  have au := fun r => up_tw (r := r) ha
  have af := fun r => mark_fig (r := r) ha
  try simp only [chs_app, show chs (Str.ofString ")") = [41] by decide +kernel, show chs (Str.ofString "many(0,") = [109, 97, 110, 121, 40, 48, 44] by decide +kernel, List.cons_append, List.nil_append, List.append_assoc, List.append_nil]
  simp [nx8, nx7, nx6, List.takeWhile_cons, List.dropWhile_cons, List.takeWhile_nil, List.dropWhile_nil, ltD, fgD, sg_c, sg_n, pMark, gm_c, gm_n, cp_c, cp_n, pInside, wHas, wMany, wBefore, wUnder, wBeside, wAll, wAny, wNot, pMany, pNum, goodNum, pPair, pJoint, pp61, pp60, pp59, valN, ga, gb, a41, a44, b41, b44, a0, af, au]
theorem po17 {a b : Str} (ha : markS a = true) (hb : markS b = true) : Ref (chs (((Str.ofString "many(01,") ++ a) ++ (Str.ofString ")"))) := by
  intro tm n
  have ga := gm_m ha
  have gb := gm_m hb
  have a41 := fun r => tw_mark (r := r) (c := 41) ha (by decide)
  have a44 := fun r => tw_mark (r := r) (c := 44) ha (by decide)
  have b41 := fun r => tw_mark (r := r) (c := 41) hb (by decide)
  have b44 := fun r => tw_mark (r := r) (c := 44) hb (by decide)
  have a0 := tw_end ha
  have au := fun r => up_tw (r := r) ha
  have af := fun r => mark_fig (r := r) ha
  try simp only [chs_app, show chs (Str.ofString ")") = [41] by decide +kernel, show chs (Str.ofString "many(01,") = [109, 97, 110, 121, 40, 48, 49, 44] by decide +kernel, List.cons_append, List.nil_append, List.append_assoc, List.append_nil]
  simp [nx8, nx7, nx6, List.takeWhile_cons, List.dropWhile_cons, List.takeWhile_nil, List.dropWhile_nil, ltD, fgD, sg_c, sg_n, pMark, gm_c, gm_n, cp_c, cp_n, pInside, wHas, wMany, wBefore, wUnder, wBeside, wAll, wAny, wNot, pMany, pNum, goodNum, pPair, pJoint, pp61, pp60, pp59, valN, ga, gb, a41, a44, b41, b44, a0, af, au]
theorem po18 {a b : Str} (ha : markS a = true) (hb : markS b = true) : Ref (chs (((Str.ofString "many(1234567890,") ++ a) ++ (Str.ofString ")"))) := by
  intro tm n
  have ga := gm_m ha
  have gb := gm_m hb
  have a41 := fun r => tw_mark (r := r) (c := 41) ha (by decide)
  have a44 := fun r => tw_mark (r := r) (c := 44) ha (by decide)
  have b41 := fun r => tw_mark (r := r) (c := 41) hb (by decide)
  have b44 := fun r => tw_mark (r := r) (c := 44) hb (by decide)
  have a0 := tw_end ha
  have au := fun r => up_tw (r := r) ha
  have af := fun r => mark_fig (r := r) ha
  try simp only [chs_app, show chs (Str.ofString ")") = [41] by decide +kernel, show chs (Str.ofString "many(1234567890,") = [109, 97, 110, 121, 40, 49, 50, 51, 52, 53, 54, 55, 56, 57, 48, 44] by decide +kernel, List.cons_append, List.nil_append, List.append_assoc, List.append_nil]
  simp [nx8, nx7, nx6, List.takeWhile_cons, List.dropWhile_cons, List.takeWhile_nil, List.dropWhile_nil, ltD, fgD, sg_c, sg_n, pMark, gm_c, gm_n, cp_c, cp_n, pInside, wHas, wMany, wBefore, wUnder, wBeside, wAll, wAny, wNot, pMany, pNum, goodNum, pPair, pJoint, pp61, pp60, pp59, valN, ga, gb, a41, a44, b41, b44, a0, af, au]
theorem po19 {a b : Str} (ha : markS a = true) (hb : markS b = true) : Ref (chs (((Str.ofString "many(-1,") ++ a) ++ (Str.ofString ")"))) := by
  intro tm n
  have ga := gm_m ha
  have gb := gm_m hb
  have a41 := fun r => tw_mark (r := r) (c := 41) ha (by decide)
  have a44 := fun r => tw_mark (r := r) (c := 44) ha (by decide)
  have b41 := fun r => tw_mark (r := r) (c := 41) hb (by decide)
  have b44 := fun r => tw_mark (r := r) (c := 44) hb (by decide)
  have a0 := tw_end ha
  have au := fun r => up_tw (r := r) ha
  have af := fun r => mark_fig (r := r) ha
  try simp only [chs_app, show chs (Str.ofString ")") = [41] by decide +kernel, show chs (Str.ofString "many(-1,") = [109, 97, 110, 121, 40, 45, 49, 44] by decide +kernel, List.cons_append, List.nil_append, List.append_assoc, List.append_nil]
  simp [nx8, nx7, nx6, List.takeWhile_cons, List.dropWhile_cons, List.takeWhile_nil, List.dropWhile_nil, ltD, fgD, sg_c, sg_n, pMark, gm_c, gm_n, cp_c, cp_n, pInside, wHas, wMany, wBefore, wUnder, wBeside, wAll, wAny, wNot, pMany, pNum, goodNum, pPair, pJoint, pp61, pp60, pp59, valN, ga, gb, a41, a44, b41, b44, a0, af, au]
theorem po20 {a b : Str} (ha : markS a = true) (hb : markS b = true) : Ref (chs (((Str.ofString "many(,") ++ a) ++ (Str.ofString ")"))) := by
  intro tm n
  have ga := gm_m ha
  have gb := gm_m hb
  have a41 := fun r => tw_mark (r := r) (c := 41) ha (by decide)
  have a44 := fun r => tw_mark (r := r) (c := 44) ha (by decide)
  have b41 := fun r => tw_mark (r := r) (c := 41) hb (by decide)
  have b44 := fun r => tw_mark (r := r) (c := 44) hb (by decide)
  have a0 := tw_end ha
  have au := fun r => up_tw (r := r) ha
  have af := fun r => mark_fig (r := r) ha
  try simp only [chs_app, show chs (Str.ofString ")") = [41] by decide +kernel, show chs (Str.ofString "many(,") = [109, 97, 110, 121, 40, 44] by decide +kernel, List.cons_append, List.nil_append, List.append_assoc, List.append_nil]
  simp [nx8, nx7, nx6, List.takeWhile_cons, List.dropWhile_cons, List.takeWhile_nil, List.dropWhile_nil, ltD, fgD, sg_c, sg_n, pMark, gm_c, gm_n, cp_c, cp_n, pInside, wHas, wMany, wBefore, wUnder, wBeside, wAll, wAny, wNot, pMany, pNum, goodNum, pPair, pJoint, pp61, pp60, pp59, valN, ga, gb, a41, a44, b41, b44, a0, af, au]
theorem po21 {a b : Str} (ha : markS a = true) (hb : markS b = true) : Ref (chs (((((Str.ofString "many(1,") ++ a) ++ (Str.ofString ",")) ++ b) ++ (Str.ofString ")"))) := by
  intro tm n
  have ga := gm_m ha
  have gb := gm_m hb
  have a41 := fun r => tw_mark (r := r) (c := 41) ha (by decide)
  have a44 := fun r => tw_mark (r := r) (c := 44) ha (by decide)
  have b41 := fun r => tw_mark (r := r) (c := 41) hb (by decide)
  have b44 := fun r => tw_mark (r := r) (c := 44) hb (by decide)
  have a0 := tw_end ha
  have au := fun r => up_tw (r := r) ha
  have af := fun r => mark_fig (r := r) ha
  try simp only [chs_app, show chs (Str.ofString ")") = [41] by decide +kernel, show chs (Str.ofString ",") = [44] by decide +kernel, show chs (Str.ofString "many(1,") = [109, 97, 110, 121, 40, 49, 44] by decide +kernel, List.cons_append, List.nil_append, List.append_assoc, List.append_nil]
  simp [nx8, nx7, nx6, List.takeWhile_cons, List.dropWhile_cons, List.takeWhile_nil, List.dropWhile_nil, ltD, fgD, sg_c, sg_n, pMark, gm_c, gm_n, cp_c, cp_n, pInside, wHas, wMany, wBefore, wUnder, wBeside, wAll, wAny, wNot, pMany, pNum, goodNum, pPair, pJoint, pp61, pp60, pp59, valN, ga, gb, a41, a44, b41, b44, a0, af, au]
theorem po22 {a b : Str} (ha : markS a = true) (hb : markS b = true) : Ref (chs (((Str.ofString "many(") ++ a) ++ (Str.ofString ",1)"))) := by
  intro tm n
  have ga := gm_m ha
  have gb := gm_m hb
  have a41 := fun r => tw_mark (r := r) (c := 41) ha (by decide)
  have a44 := fun r => tw_mark (r := r) (c := 44) ha (by decide)
  have b41 := fun r => tw_mark (r := r) (c := 41) hb (by decide)
  have b44 := fun r => tw_mark (r := r) (c := 44) hb (by decide)
  have a0 := tw_end ha
  have au := fun r => up_tw (r := r) ha
  have af := fun r => mark_fig (r := r) ha
  try simp only [chs_app, show chs (Str.ofString ",1)") = [44, 49, 41] by decide +kernel, show chs (Str.ofString "many(") = [109, 97, 110, 121, 40] by decide +kernel, List.cons_append, List.nil_append, List.append_assoc, List.append_nil]
  simp [nx8, nx7, nx6, List.takeWhile_cons, List.dropWhile_cons, List.takeWhile_nil, List.dropWhile_nil, ltD, fgD, sg_c, sg_n, pMark, gm_c, gm_n, cp_c, cp_n, pInside, wHas, wMany, wBefore, wUnder, wBeside, wAll, wAny, wNot, pMany, pNum, goodNum, pPair, pJoint, pp61, pp60, pp59, valN, ga, gb, a41, a44, b41, b44, a0, af, au]
theorem po23 {a b : Str} (ha : markS a = true) (hb : markS b = true) : Ref (chs (((Str.ofString "many(1, ") ++ a) ++ (Str.ofString ")"))) := by
  intro tm n
  have ga := gm_m ha
  have gb := gm_m hb
  have a41 := fun r => tw_mark (r := r) (c := 41) ha (by decide)
  have a44 := fun r => tw_mark (r := r) (c := 44) ha (by decide)
  have b41 := fun r => tw_mark (r := r) (c := 41) hb (by decide)
  have b44 := fun r => tw_mark (r := r) (c := 44) hb (by decide)
  have a0 := tw_end ha
  have au := fun r => up_tw (r := r) ha
  have af := fun r => mark_fig (r := r) ha
  try simp only [chs_app, show chs (Str.ofString ")") = [41] by decide +kernel, show chs (Str.ofString "many(1, ") = [109, 97, 110, 121, 40, 49, 44, 32] by decide +kernel, List.cons_append, List.nil_append, List.append_assoc, List.append_nil]
  simp [nx8, nx7, nx6, List.takeWhile_cons, List.dropWhile_cons, List.takeWhile_nil, List.dropWhile_nil, ltD, fgD, sg_c, sg_n, pMark, gm_c, gm_n, cp_c, cp_n, pInside, wHas, wMany, wBefore, wUnder, wBeside, wAll, wAny, wNot, pMany, pNum, goodNum, pPair, pJoint, pp61, pp60, pp59, valN, ga, gb, a41, a44, b41, b44, a0, af, au]
theorem po24 {a b : Str} (ha : markS a = true) (hb : markS b = true) : Ref (chs (Str.ofString "many(1)")) := by
  intro tm n
  have ga := gm_m ha
  have gb := gm_m hb
  have a41 := fun r => tw_mark (r := r) (c := 41) ha (by decide)
  have a44 := fun r => tw_mark (r := r) (c := 44) ha (by decide)
  have b41 := fun r => tw_mark (r := r) (c := 41) hb (by decide)
  have b44 := fun r => tw_mark (r := r) (c := 44) hb (by decide)
  have a0 := tw_end ha
  have au := fun r => up_tw (r := r) ha
  have af := fun r => mark_fig (r := r) ha
  try simp only [chs_app, show chs (Str.ofString "many(1)") = [109, 97, 110, 121, 40, 49, 41] by decide +kernel, List.cons_append, List.nil_append, List.append_assoc, List.append_nil]
  simp [nx8, nx7, nx6, List.takeWhile_cons, List.dropWhile_cons, List.takeWhile_nil, List.dropWhile_nil, ltD, fgD, sg_c, sg_n, pMark, gm_c, gm_n, cp_c, cp_n, pInside, wHas, wMany, wBefore, wUnder, wBeside, wAll, wAny, wNot, pMany, pNum, goodNum, pPair, pJoint, pp61, pp60, pp59, valN, ga, gb, a41, a44, b41, b44, a0, af, au]
theorem po25 {a b : Str} (ha : markS a = true) (hb : markS b = true) : Ref (chs (Str.ofString "many()")) := by
  intro tm n
  have ga := gm_m ha
  have gb := gm_m hb
  have a41 := fun r => tw_mark (r := r) (c := 41) ha (by decide)
  have a44 := fun r => tw_mark (r := r) (c := 44) ha (by decide)
  have b41 := fun r => tw_mark (r := r) (c := 41) hb (by decide)
  have b44 := fun r => tw_mark (r := r) (c := 44) hb (by decide)
  have a0 := tw_end ha
  have au := fun r => up_tw (r := r) ha
  have af := fun r => mark_fig (r := r) ha
  try simp only [chs_app, show chs (Str.ofString "many()") = [109, 97, 110, 121, 40, 41] by decide +kernel, List.cons_append, List.nil_append, List.append_assoc, List.append_nil]
  simp [nx8, nx7, nx6, List.takeWhile_cons, List.dropWhile_cons, List.takeWhile_nil, List.dropWhile_nil, ltD, fgD, sg_c, sg_n, pMark, gm_c, gm_n, cp_c, cp_n, pInside, wHas, wMany, wBefore, wUnder, wBeside, wAll, wAny, wNot, pMany, pNum, goodNum, pPair, pJoint, pp61, pp60, pp59, valN, ga, gb, a41, a44, b41, b44, a0, af, au]
theorem po26 {a b : Str} (ha : markS a = true) (hb : markS b = true) : Ref (chs (((Str.ofString "many(1_0,") ++ a) ++ (Str.ofString ")"))) := by
  intro tm n
  have ga := gm_m ha
  have gb := gm_m hb
  have a41 := fun r => tw_mark (r := r) (c := 41) ha (by decide)
  have a44 := fun r => tw_mark (r := r) (c := 44) ha (by decide)
  have b41 := fun r => tw_mark (r := r) (c := 41) hb (by decide)
  have b44 := fun r => tw_mark (r := r) (c := 44) hb (by decide)
  have a0 := tw_end ha
  have au := fun r => up_tw (r := r) ha
  have af := fun r => mark_fig (r := r) ha
  try simp only [chs_app, show chs (Str.ofString ")") = [41] by decide +kernel, show chs (Str.ofString "many(1_0,") = [109, 97, 110, 121, 40, 49, 95, 48, 44] by decide +kernel, List.cons_append, List.nil_append, List.append_assoc, List.append_nil]
  simp [nx8, nx7, nx6, List.takeWhile_cons, List.dropWhile_cons, List.takeWhile_nil, List.dropWhile_nil, ltD, fgD, sg_c, sg_n, pMark, gm_c, gm_n, cp_c, cp_n, pInside, wHas, wMany, wBefore, wUnder, wBeside, wAll, wAny, wNot, pMany, pNum, goodNum, pPair, pJoint, pp61, pp60, pp59, valN, ga, gb, a41, a44, b41, b44, a0, af, au]
theorem po27 {a b : Str} (ha : markS a = true) (hb : markS b = true) : Ref (chs (((Str.ofString "many(+1,") ++ a) ++ (Str.ofString ")"))) := by
  intro tm n
  have ga := gm_m ha
  have gb := gm_m hb
  have a41 := fun r => tw_mark (r := r) (c := 41) ha (by decide)
  have a44 := fun r => tw_mark (r := r) (c := 44) ha (by decide)
  have b41 := fun r => tw_mark (r := r) (c := 41) hb (by decide)
  have b44 := fun r => tw_mark (r := r) (c := 44) hb (by decide)
  have a0 := tw_end ha
  have au := fun r => up_tw (r := r) ha
  have af := fun r => mark_fig (r := r) ha
  try simp only [chs_app, show chs (Str.ofString ")") = [41] by decide +kernel, show chs (Str.ofString "many(+1,") = [109, 97, 110, 121, 40, 43, 49, 44] by decide +kernel, List.cons_append, List.nil_append, List.append_assoc, List.append_nil]
  simp [nx8, nx7, nx6, List.takeWhile_cons, List.dropWhile_cons, List.takeWhile_nil, List.dropWhile_nil, ltD, fgD, sg_c, sg_n, pMark, gm_c, gm_n, cp_c, cp_n, pInside, wHas, wMany, wBefore, wUnder, wBeside, wAll, wAny, wNot, pMany, pNum, goodNum, pPair, pJoint, pp61, pp60, pp59, valN, ga, gb, a41, a44, b41, b44, a0, af, au]
theorem po28 {a b : Str} (ha : markS a = true) (hb : markS b = true) : Ref (chs (((Str.ofString "has(") ++ a) ++ (Str.ofString ")\n"))) := by
  intro tm n
  have ga := gm_m ha
  have gb := gm_m hb
  have a41 := fun r => tw_mark (r := r) (c := 41) ha (by decide)
  have a44 := fun r => tw_mark (r := r) (c := 44) ha (by decide)
  have b41 := fun r => tw_mark (r := r) (c := 41) hb (by decide)
  have b44 := fun r => tw_mark (r := r) (c := 44) hb (by decide)
  have a0 := tw_end ha
  have au := fun r => up_tw (r := r) ha
  have af := fun r => mark_fig (r := r) ha
  try simp only [chs_app, show chs (Str.ofString ")\n") = [41, 10] by decide +kernel, show chs (Str.ofString "has(") = [104, 97, 115, 40] by decide +kernel, List.cons_append, List.nil_append, List.append_assoc, List.append_nil]
  simp [nx8, nx7, nx6, List.takeWhile_cons, List.dropWhile_cons, List.takeWhile_nil, List.dropWhile_nil, ltD, fgD, sg_c, sg_n, pMark, gm_c, gm_n, cp_c, cp_n, pInside, wHas, wMany, wBefore, wUnder, wBeside, wAll, wAny, wNot, pMany, pNum, goodNum, pPair, pJoint, pp61, pp60, pp59, valN, ga, gb, a41, a44, b41, b44, a0, af, au]
theorem po29 {a b : Str} (ha : markS a = true) (hb : markS b = true) : Ref (chs (((Str.ofString "\thas(") ++ a) ++ (Str.ofString ")"))) := by
  intro tm n
  have ga := gm_m ha
  have gb := gm_m hb
  have a41 := fun r => tw_mark (r := r) (c := 41) ha (by decide)
  have a44 := fun r => tw_mark (r := r) (c := 44) ha (by decide)
  have b41 := fun r => tw_mark (r := r) (c := 41) hb (by decide)
  have b44 := fun r => tw_mark (r := r) (c := 44) hb (by decide)
  have a0 := tw_end ha
  have au := fun r => up_tw (r := r) ha
  have af := fun r => mark_fig (r := r) ha
  try simp only [chs_app, show chs (Str.ofString ")") = [41] by decide +kernel, show chs (Str.ofString "\thas(") = [9, 104, 97, 115, 40] by decide +kernel, List.cons_append, List.nil_append, List.append_assoc, List.append_nil]
  simp [nx8, nx7, nx6, List.takeWhile_cons, List.dropWhile_cons, List.takeWhile_nil, List.dropWhile_nil, ltD, fgD, sg_c, sg_n, pMark, gm_c, gm_n, cp_c, cp_n, pInside, wHas, wMany, wBefore, wUnder, wBeside, wAll, wAny, wNot, pMany, pNum, goodNum, pPair, pJoint, pp61, pp60, pp59, valN, ga, gb, a41, a44, b41, b44, a0, af, au]
theorem po30 {a b : Str} (ha : markS a = true) (hb : markS b = true) : Ref (chs (((Str.ofString "before(") ++ a) ++ (Str.ofString ")"))) := by
  intro tm n
  have ga := gm_m ha
  have gb := gm_m hb
  have a41 := fun r => tw_mark (r := r) (c := 41) ha (by decide)
  have a44 := fun r => tw_mark (r := r) (c := 44) ha (by decide)
  have b41 := fun r => tw_mark (r := r) (c := 41) hb (by decide)
  have b44 := fun r => tw_mark (r := r) (c := 44) hb (by decide)
  have a0 := tw_end ha
  have au := fun r => up_tw (r := r) ha
  have af := fun r => mark_fig (r := r) ha
  try simp only [chs_app, show chs (Str.ofString ")") = [41] by decide +kernel, show chs (Str.ofString "before(") = [98, 101, 102, 111, 114, 101, 40] by decide +kernel, List.cons_append, List.nil_append, List.append_assoc, List.append_nil]
  simp [nx8, nx7, nx6, List.takeWhile_cons, List.dropWhile_cons, List.takeWhile_nil, List.dropWhile_nil, ltD, fgD, sg_c, sg_n, pMark, gm_c, gm_n, cp_c, cp_n, pInside, wHas, wMany, wBefore, wUnder, wBeside, wAll, wAny, wNot, pMany, pNum, goodNum, pPair, pJoint, pp61, pp60, pp59, valN, ga, gb, a41, a44, b41, b44, a0, af, au]
theorem po31 {a b : Str} (ha : markS a = true) (hb : markS b = true) : Ref (chs (((((((Str.ofString "before(") ++ a) ++ (Str.ofString ",")) ++ b) ++ (Str.ofString ",")) ++ b) ++ (Str.ofString ")"))) := by
  intro tm n
  have ga := gm_m ha
  have gb := gm_m hb
  have a41 := fun r => tw_mark (r := r) (c := 41) ha (by decide)
  have a44 := fun r => tw_mark (r := r) (c := 44) ha (by decide)
  have b41 := fun r => tw_mark (r := r) (c := 41) hb (by decide)
  have b44 := fun r => tw_mark (r := r) (c := 44) hb (by decide)
  have a0 := tw_end ha
  have au := fun r => up_tw (r := r) ha
  have af := fun r => mark_fig (r := r) ha
  try simp only [chs_app, show chs (Str.ofString ")") = [41] by decide +kernel, show chs (Str.ofString ",") = [44] by decide +kernel, show chs (Str.ofString "before(") = [98, 101, 102, 111, 114, 101, 40] by decide +kernel, List.cons_append, List.nil_append, List.append_assoc, List.append_nil]
  simp [nx8, nx7, nx6, List.takeWhile_cons, List.dropWhile_cons, List.takeWhile_nil, List.dropWhile_nil, ltD, fgD, sg_c, sg_n, pMark, gm_c, gm_n, cp_c, cp_n, pInside, wHas, wMany, wBefore, wUnder, wBeside, wAll, wAny, wNot, pMany, pNum, goodNum, pPair, pJoint, pp61, pp60, pp59, valN, ga, gb, a41, a44, b41, b44, a0, af, au]
theorem po32 {a b : Str} (ha : markS a = true) (hb : markS b = true) : Ref (chs (((((Str.ofString "before(") ++ a) ++ (Str.ofString ", ")) ++ b) ++ (Str.ofString ")"))) := by
  intro tm n
  have ga := gm_m ha
  have gb := gm_m hb
  have a41 := fun r => tw_mark (r := r) (c := 41) ha (by decide)
  have a44 := fun r => tw_mark (r := r) (c := 44) ha (by decide)
  have b41 := fun r => tw_mark (r := r) (c := 41) hb (by decide)
  have b44 := fun r => tw_mark (r := r) (c := 44) hb (by decide)
  have a0 := tw_end ha
  have au := fun r => up_tw (r := r) ha
  have af := fun r => mark_fig (r := r) ha
  try simp only [chs_app, show chs (Str.ofString ")") = [41] by decide +kernel, show chs (Str.ofString ", ") = [44, 32] by decide +kernel, show chs (Str.ofString "before(") = [98, 101, 102, 111, 114, 101, 40] by decide +kernel, List.cons_append, List.nil_append, List.append_assoc, List.append_nil]
  simp [nx8, nx7, nx6, List.takeWhile_cons, List.dropWhile_cons, List.takeWhile_nil, List.dropWhile_nil, ltD, fgD, sg_c, sg_n, pMark, gm_c, gm_n, cp_c, cp_n, pInside, wHas, wMany, wBefore, wUnder, wBeside, wAll, wAny, wNot, pMany, pNum, goodNum, pPair, pJoint, pp61, pp60, pp59, valN, ga, gb, a41, a44, b41, b44, a0, af, au]
theorem po33 {a b : Str} (ha : markS a = true) (hb : markS b = true) : Ref (chs (Str.ofString "under()")) := by
  intro tm n
  have ga := gm_m ha
  have gb := gm_m hb
  have a41 := fun r => tw_mark (r := r) (c := 41) ha (by decide)
  have a44 := fun r => tw_mark (r := r) (c := 44) ha (by decide)
  have b41 := fun r => tw_mark (r := r) (c := 41) hb (by decide)
  have b44 := fun r => tw_mark (r := r) (c := 44) hb (by decide)
  have a0 := tw_end ha
  have au := fun r => up_tw (r := r) ha
  have af := fun r => mark_fig (r := r) ha
  try simp only [chs_app, show chs (Str.ofString "under()") = [117, 110, 100, 101, 114, 40, 41] by decide +kernel, List.cons_append, List.nil_append, List.append_assoc, List.append_nil]
  simp [nx8, nx7, nx6, List.takeWhile_cons, List.dropWhile_cons, List.takeWhile_nil, List.dropWhile_nil, ltD, fgD, sg_c, sg_n, pMark, gm_c, gm_n, cp_c, cp_n, pInside, wHas, wMany, wBefore, wUnder, wBeside, wAll, wAny, wNot, pMany, pNum, goodNum, pPair, pJoint, pp61, pp60, pp59, valN, ga, gb, a41, a44, b41, b44, a0, af, au]
theorem po34 {a b : Str} (ha : markS a = true) (hb : markS b = true) : Ref (chs (((Str.ofString "beside(") ++ a) ++ (Str.ofString ",)"))) := by
  intro tm n
  have ga := gm_m ha
  have gb := gm_m hb
  have a41 := fun r => tw_mark (r := r) (c := 41) ha (by decide)
  have a44 := fun r => tw_mark (r := r) (c := 44) ha (by decide)
  have b41 := fun r => tw_mark (r := r) (c := 41) hb (by decide)
  have b44 := fun r => tw_mark (r := r) (c := 44) hb (by decide)
  have a0 := tw_end ha
  have au := fun r => up_tw (r := r) ha
  have af := fun r => mark_fig (r := r) ha
  try simp only [chs_app, show chs (Str.ofString ",)") = [44, 41] by decide +kernel, show chs (Str.ofString "beside(") = [98, 101, 115, 105, 100, 101, 40] by decide +kernel, List.cons_append, List.nil_append, List.append_assoc, List.append_nil]
  simp [nx8, nx7, nx6, List.takeWhile_cons, List.dropWhile_cons, List.takeWhile_nil, List.dropWhile_nil, ltD, fgD, sg_c, sg_n, pMark, gm_c, gm_n, cp_c, cp_n, pInside, wHas, wMany, wBefore, wUnder, wBeside, wAll, wAny, wNot, pMany, pNum, goodNum, pPair, pJoint, pp61, pp60, pp59, valN, ga, gb, a41, a44, b41, b44, a0, af, au]
theorem po35 {a b : Str} (ha : markS a = true) (hb : markS b = true) : Ref (chs (((Str.ofString "(") ++ a) ++ (Str.ofString ")"))) := by
  intro tm n
  have ga := gm_m ha
  have gb := gm_m hb
  have a41 := fun r => tw_mark (r := r) (c := 41) ha (by decide)
  have a44 := fun r => tw_mark (r := r) (c := 44) ha (by decide)
  have b41 := fun r => tw_mark (r := r) (c := 41) hb (by decide)
  have b44 := fun r => tw_mark (r := r) (c := 44) hb (by decide)
  have a0 := tw_end ha
  have au := fun r => up_tw (r := r) ha
  have af := fun r => mark_fig (r := r) ha
  try simp only [chs_app, show chs (Str.ofString ")") = [41] by decide +kernel, show chs (Str.ofString "(") = [40] by decide +kernel, List.cons_append, List.nil_append, List.append_assoc, List.append_nil]
  simp [nx8, nx7, nx6, List.takeWhile_cons, List.dropWhile_cons, List.takeWhile_nil, List.dropWhile_nil, ltD, fgD, sg_c, sg_n, pMark, gm_c, gm_n, cp_c, cp_n, pInside, wHas, wMany, wBefore, wUnder, wBeside, wAll, wAny, wNot, pMany, pNum, goodNum, pPair, pJoint, pp61, pp60, pp59, valN, ga, gb, a41, a44, b41, b44, a0, af, au]
theorem po36 {a b : Str} (ha : markS a = true) (hb : markS b = true) : Ref (chs a) := by
  intro tm n
  have ga := gm_m ha
  have gb := gm_m hb
  have a41 := fun r => tw_mark (r := r) (c := 41) ha (by decide)
  have a44 := fun r => tw_mark (r := r) (c := 44) ha (by decide)
  have b41 := fun r => tw_mark (r := r) (c := 41) hb (by decide)
  have b44 := fun r => tw_mark (r := r) (c := 44) hb (by decide)
  have a0 := tw_end ha
  have au := fun r => up_tw (r := r) ha
  have af := fun r => mark_fig (r := r) ha
  try simp only [chs_app, List.cons_append, List.nil_append, List.append_assoc, List.append_nil]
  simp [nx8, nx7, nx6, List.takeWhile_cons, List.dropWhile_cons, List.takeWhile_nil, List.dropWhile_nil, ltD, fgD, sg_c, sg_n, pMark, gm_c, gm_n, cp_c, cp_n, pInside, wHas, wMany, wBefore, wUnder, wBeside, wAll, wAny, wNot, pMany, pNum, goodNum, pPair, pJoint, pp61, pp60, pp59, valN, ga, gb, a41, a44, b41, b44, a0, af, au]
theorem po37 {a b : Str} (ha : markS a = true) (hb : markS b = true) : Ref (chs (((((Str.ofString "has(") ++ a) ++ (Str.ofString ")has(")) ++ b) ++ (Str.ofString ")"))) := by
  intro tm n
  have ga := gm_m ha
  have gb := gm_m hb
  have a41 := fun r => tw_mark (r := r) (c := 41) ha (by decide)
  have a44 := fun r => tw_mark (r := r) (c := 44) ha (by decide)
  have b41 := fun r => tw_mark (r := r) (c := 41) hb (by decide)
  have b44 := fun r => tw_mark (r := r) (c := 44) hb (by decide)
  have a0 := tw_end ha
  have au := fun r => up_tw (r := r) ha
  have af := fun r => mark_fig (r := r) ha
  try simp only [chs_app, show chs (Str.ofString ")") = [41] by decide +kernel, show chs (Str.ofString ")has(") = [41, 104, 97, 115, 40] by decide +kernel, show chs (Str.ofString "has(") = [104, 97, 115, 40] by decide +kernel, List.cons_append, List.nil_append, List.append_assoc, List.append_nil]
  simp [nx8, nx7, nx6, List.takeWhile_cons, List.dropWhile_cons, List.takeWhile_nil, List.dropWhile_nil, ltD, fgD, sg_c, sg_n, pMark, gm_c, gm_n, cp_c, cp_n, pInside, wHas, wMany, wBefore, wUnder, wBeside, wAll, wAny, wNot, pMany, pNum, goodNum, pPair, pJoint, pp61, pp60, pp59, valN, ga, gb, a41, a44, b41, b44, a0, af, au]
theorem po38 {a b : Str} (ha : markS a = true) (hb : markS b = true) : Ref (chs (Str.ofString "()")) := by
  intro tm n
  have ga := gm_m ha
  have gb := gm_m hb
  have a41 := fun r => tw_mark (r := r) (c := 41) ha (by decide)
  have a44 := fun r => tw_mark (r := r) (c := 44) ha (by decide)
  have b41 := fun r => tw_mark (r := r) (c := 41) hb (by decide)
  have b44 := fun r => tw_mark (r := r) (c := 44) hb (by decide)
  have a0 := tw_end ha
  have au := fun r => up_tw (r := r) ha
  have af := fun r => mark_fig (r := r) ha
  try simp only [chs_app, show chs (Str.ofString "()") = [40, 41] by decide +kernel, List.cons_append, List.nil_append, List.append_assoc, List.append_nil]
  simp [nx8, nx7, nx6, List.takeWhile_cons, List.dropWhile_cons, List.takeWhile_nil, List.dropWhile_nil, ltD, fgD, sg_c, sg_n, pMark, gm_c, gm_n, cp_c, cp_n, pInside, wHas, wMany, wBefore, wUnder, wBeside, wAll, wAny, wNot, pMany, pNum, goodNum, pPair, pJoint, pp61, pp60, pp59, valN, ga, gb, a41, a44, b41, b44, a0, af, au]
theorem po39 {a b : Str} (ha : markS a = true) (hb : markS b = true) : Ref (chs (Str.ofString ")")) := by
  intro tm n
  have ga := gm_m ha
  have gb := gm_m hb
  have a41 := fun r => tw_mark (r := r) (c := 41) ha (by decide)
  have a44 := fun r => tw_mark (r := r) (c := 44) ha (by decide)
  have b41 := fun r => tw_mark (r := r) (c := 41) hb (by decide)
  have b44 := fun r => tw_mark (r := r) (c := 44) hb (by decide)
  have a0 := tw_end ha
  have au := fun r => up_tw (r := r) ha
  have af := fun r => mark_fig (r := r) ha
  try simp only [chs_app, show chs (Str.ofString ")") = [41] by decide +kernel, List.cons_append, List.nil_append, List.append_assoc, List.append_nil]
  simp [nx8, nx7, nx6, List.takeWhile_cons, List.dropWhile_cons, List.takeWhile_nil, List.dropWhile_nil, ltD, fgD, sg_c, sg_n, pMark, gm_c, gm_n, cp_c, cp_n, pInside, wHas, wMany, wBefore, wUnder, wBeside, wAll, wAny, wNot, pMany, pNum, goodNum, pPair, pJoint, pp61, pp60, pp59, valN, ga, gb, a41, a44, b41, b44, a0, af, au]
theorem po40 {a b : Str} (ha : markS a = true) (hb : markS b = true) : Ref (chs (Str.ofString ",")) := by
  intro tm n
  have ga := gm_m ha
  have gb := gm_m hb
  have a41 := fun r => tw_mark (r := r) (c := 41) ha (by decide)
  have a44 := fun r => tw_mark (r := r) (c := 44) ha (by decide)
  have b41 := fun r => tw_mark (r := r) (c := 41) hb (by decide)
  have b44 := fun r => tw_mark (r := r) (c := 44) hb (by decide)
  have a0 := tw_end ha
  have au := fun r => up_tw (r := r) ha
  have af := fun r => mark_fig (r := r) ha
  try simp only [chs_app, show chs (Str.ofString ",") = [44] by decide +kernel, List.cons_append, List.nil_append, List.append_assoc, List.append_nil]
  simp [nx8, nx7, nx6, List.takeWhile_cons, List.dropWhile_cons, List.takeWhile_nil, List.dropWhile_nil, ltD, fgD, sg_c, sg_n, pMark, gm_c, gm_n, cp_c, cp_n, pInside, wHas, wMany, wBefore, wUnder, wBeside, wAll, wAny, wNot, pMany, pNum, goodNum, pPair, pJoint, pp61, pp60, pp59, valN, ga, gb, a41, a44, b41, b44, a0, af, au]
theorem go0 {a b : Str} (ha : markS a = true) (hb : markS b = true) : Ref (chs (((Str.ofString "all(") ++ (Str.ofString "has(" ++ a ++ Str.ofString ")")) ++ (Str.ofString ")"))) := by
  intro tm n
  have ga := gm_m ha
  have gb := gm_m hb
  have a41 := fun r => tw_mark (r := r) (c := 41) ha (by decide)
  have a44 := fun r => tw_mark (r := r) (c := 44) ha (by decide)
  have b41 := fun r => tw_mark (r := r) (c := 41) hb (by decide)
  have b44 := fun r => tw_mark (r := r) (c := 44) hb (by decide)
  have a0 := tw_end ha
  have au := fun r => up_tw (r := r) ha
  have af := fun r => mark_fig (r := r) ha
  try simp only [chs_app, show chs (Str.ofString ")") = [41] by decide +kernel, show chs (Str.ofString "all(") = [97, 108, 108, 40] by decide +kernel, show chs (Str.ofString "has(") = [104, 97, 115, 40] by decide +kernel, List.cons_append, List.nil_append, List.append_assoc, List.append_nil]
  simp [nx8, nx7, nx6, List.takeWhile_cons, List.dropWhile_cons, List.takeWhile_nil, List.dropWhile_nil, ltD, fgD, sg_c, sg_n, pMark, gm_c, gm_n, cp_c, cp_n, pInside, wHas, wMany, wBefore, wUnder, wBeside, wAll, wAny, wNot, pMany, pNum, goodNum, pPair, pJoint, pp61, pp60, pp59, valN, ga, gb, a41, a44, b41, b44, a0, af, au]
theorem go1 {a b : Str} (ha : markS a = true) (hb : markS b = true) : Ref (chs (((Str.ofString "any(") ++ (Str.ofString "has(" ++ a ++ Str.ofString ")")) ++ (Str.ofString ")"))) := by
  intro tm n
  have ga := gm_m ha
  have gb := gm_m hb
  have a41 := fun r => tw_mark (r := r) (c := 41) ha (by decide)
  have a44 := fun r => tw_mark (r := r) (c := 44) ha (by decide)
  have b41 := fun r => tw_mark (r := r) (c := 41) hb (by decide)
  have b44 := fun r => tw_mark (r := r) (c := 44) hb (by decide)
  have a0 := tw_end ha
  have au := fun r => up_tw (r := r) ha
  have af := fun r => mark_fig (r := r) ha
  try simp only [chs_app, show chs (Str.ofString ")") = [41] by decide +kernel, show chs (Str.ofString "any(") = [97, 110, 121, 40] by decide +kernel, show chs (Str.ofString "has(") = [104, 97, 115, 40] by decide +kernel, List.cons_append, List.nil_append, List.append_assoc, List.append_nil]
  simp [nx8, nx7, nx6, List.takeWhile_cons, List.dropWhile_cons, List.takeWhile_nil, List.dropWhile_nil, ltD, fgD, sg_c, sg_n, pMark, gm_c, gm_n, cp_c, cp_n, pInside, wHas, wMany, wBefore, wUnder, wBeside, wAll, wAny, wNot, pMany, pNum, goodNum, pPair, pJoint, pp61, pp60, pp59, valN, ga, gb, a41, a44, b41, b44, a0, af, au]
theorem go2 {a b : Str} (ha : markS a = true) (hb : markS b = true) : Ref (chs (Str.ofString "all()")) := by
  intro tm n
  have ga := gm_m ha
  have gb := gm_m hb
  have a41 := fun r => tw_mark (r := r) (c := 41) ha (by decide)
  have a44 := fun r => tw_mark (r := r) (c := 44) ha (by decide)
  have b41 := fun r => tw_mark (r := r) (c := 41) hb (by decide)
  have b44 := fun r => tw_mark (r := r) (c := 44) hb (by decide)
  have a0 := tw_end ha
  have au := fun r => up_tw (r := r) ha
  have af := fun r => mark_fig (r := r) ha
  try simp only [chs_app, show chs (Str.ofString "all()") = [97, 108, 108, 40, 41] by decide +kernel, show chs (Str.ofString "has(") = [104, 97, 115, 40] by decide +kernel, show chs (Str.ofString ")") = [41] by decide +kernel, List.cons_append, List.nil_append, List.append_assoc, List.append_nil]
  simp [nx8, nx7, nx6, List.takeWhile_cons, List.dropWhile_cons, List.takeWhile_nil, List.dropWhile_nil, ltD, fgD, sg_c, sg_n, pMark, gm_c, gm_n, cp_c, cp_n, pInside, wHas, wMany, wBefore, wUnder, wBeside, wAll, wAny, wNot, pMany, pNum, goodNum, pPair, pJoint, pp61, pp60, pp59, valN, ga, gb, a41, a44, b41, b44, a0, af, au]
theorem go3 {a b : Str} (ha : markS a = true) (hb : markS b = true) : Ref (chs (Str.ofString "not()")) := by
  intro tm n
  have ga := gm_m ha
  have gb := gm_m hb
  have a41 := fun r => tw_mark (r := r) (c := 41) ha (by decide)
  have a44 := fun r => tw_mark (r := r) (c := 44) ha (by decide)
  have b41 := fun r => tw_mark (r := r) (c := 41) hb (by decide)
  have b44 := fun r => tw_mark (r := r) (c := 44) hb (by decide)
  have a0 := tw_end ha
  have au := fun r => up_tw (r := r) ha
  have af := fun r => mark_fig (r := r) ha
  try simp only [chs_app, show chs (Str.ofString "not()") = [110, 111, 116, 40, 41] by decide +kernel, show chs (Str.ofString "has(") = [104, 97, 115, 40] by decide +kernel, show chs (Str.ofString ")") = [41] by decide +kernel, List.cons_append, List.nil_append, List.append_assoc, List.append_nil]
  simp [nx8, nx7, nx6, List.takeWhile_cons, List.dropWhile_cons, List.takeWhile_nil, List.dropWhile_nil, ltD, fgD, sg_c, sg_n, pMark, gm_c, gm_n, cp_c, cp_n, pInside, wHas, wMany, wBefore, wUnder, wBeside, wAll, wAny, wNot, pMany, pNum, goodNum, pPair, pJoint, pp61, pp60, pp59, valN, ga, gb, a41, a44, b41, b44, a0, af, au]
theorem go4 {a b : Str} (ha : markS a = true) (hb : markS b = true) : Ref (chs (((((Str.ofString "not(") ++ (Str.ofString "has(" ++ a ++ Str.ofString ")")) ++ (Str.ofString ",")) ++ (Str.ofString "has(" ++ b ++ Str.ofString ")")) ++ (Str.ofString ")"))) := by
  intro tm n
  have ga := gm_m ha
  have gb := gm_m hb
  have a41 := fun r => tw_mark (r := r) (c := 41) ha (by decide)
  have a44 := fun r => tw_mark (r := r) (c := 44) ha (by decide)
  have b41 := fun r => tw_mark (r := r) (c := 41) hb (by decide)
  have b44 := fun r => tw_mark (r := r) (c := 44) hb (by decide)
  have a0 := tw_end ha
  have au := fun r => up_tw (r := r) ha
  have af := fun r => mark_fig (r := r) ha
  try simp only [chs_app, show chs (Str.ofString ")") = [41] by decide +kernel, show chs (Str.ofString ",") = [44] by decide +kernel, show chs (Str.ofString "not(") = [110, 111, 116, 40] by decide +kernel, show chs (Str.ofString "has(") = [104, 97, 115, 40] by decide +kernel, List.cons_append, List.nil_append, List.append_assoc, List.append_nil]
  simp [nx8, nx7, nx6, List.takeWhile_cons, List.dropWhile_cons, List.takeWhile_nil, List.dropWhile_nil, ltD, fgD, sg_c, sg_n, pMark, gm_c, gm_n, cp_c, cp_n, pInside, wHas, wMany, wBefore, wUnder, wBeside, wAll, wAny, wNot, pMany, pNum, goodNum, pPair, pJoint, pp61, pp60, pp59, valN, ga, gb, a41, a44, b41, b44, a0, af, au]
theorem go5 {a b : Str} (ha : markS a = true) (hb : markS b = true) : Ref (chs (((Str.ofString "all(") ++ (Str.ofString "has(" ++ a ++ Str.ofString ")")) ++ (Str.ofString ",)"))) := by
  intro tm n
  have ga := gm_m ha
  have gb := gm_m hb
  have a41 := fun r => tw_mark (r := r) (c := 41) ha (by decide)
  have a44 := fun r => tw_mark (r := r) (c := 44) ha (by decide)
  have b41 := fun r => tw_mark (r := r) (c := 41) hb (by decide)
  have b44 := fun r => tw_mark (r := r) (c := 44) hb (by decide)
  have a0 := tw_end ha
  have au := fun r => up_tw (r := r) ha
  have af := fun r => mark_fig (r := r) ha
  try simp only [chs_app, show chs (Str.ofString ",)") = [44, 41] by decide +kernel, show chs (Str.ofString "all(") = [97, 108, 108, 40] by decide +kernel, show chs (Str.ofString "has(") = [104, 97, 115, 40] by decide +kernel, show chs (Str.ofString ")") = [41] by decide +kernel, List.cons_append, List.nil_append, List.append_assoc, List.append_nil]
  simp [nx8, nx7, nx6, List.takeWhile_cons, List.dropWhile_cons, List.takeWhile_nil, List.dropWhile_nil, ltD, fgD, sg_c, sg_n, pMark, gm_c, gm_n, cp_c, cp_n, pInside, wHas, wMany, wBefore, wUnder, wBeside, wAll, wAny, wNot, pMany, pNum, goodNum, pPair, pJoint, pp61, pp60, pp59, valN, ga, gb, a41, a44, b41, b44, a0, af, au]
theorem go6 {a b : Str} (ha : markS a = true) (hb : markS b = true) : Ref (chs (((Str.ofString "all(,") ++ (Str.ofString "has(" ++ a ++ Str.ofString ")")) ++ (Str.ofString ")"))) := by
  intro tm n
  have ga := gm_m ha
  have gb := gm_m hb
  have a41 := fun r => tw_mark (r := r) (c := 41) ha (by decide)
  have a44 := fun r => tw_mark (r := r) (c := 44) ha (by decide)
  have b41 := fun r => tw_mark (r := r) (c := 41) hb (by decide)
  have b44 := fun r => tw_mark (r := r) (c := 44) hb (by decide)
  have a0 := tw_end ha
  have au := fun r => up_tw (r := r) ha
  have af := fun r => mark_fig (r := r) ha
  try simp only [chs_app, show chs (Str.ofString ")") = [41] by decide +kernel, show chs (Str.ofString "all(,") = [97, 108, 108, 40, 44] by decide +kernel, show chs (Str.ofString "has(") = [104, 97, 115, 40] by decide +kernel, List.cons_append, List.nil_append, List.append_assoc, List.append_nil]
  simp [nx8, nx7, nx6, List.takeWhile_cons, List.dropWhile_cons, List.takeWhile_nil, List.dropWhile_nil, ltD, fgD, sg_c, sg_n, pMark, gm_c, gm_n, cp_c, cp_n, pInside, wHas, wMany, wBefore, wUnder, wBeside, wAll, wAny, wNot, pMany, pNum, goodNum, pPair, pJoint, pp61, pp60, pp59, valN, ga, gb, a41, a44, b41, b44, a0, af, au]
theorem go7 {a b : Str} (ha : markS a = true) (hb : markS b = true) : Ref (chs (((((Str.ofString "all(") ++ (Str.ofString "has(" ++ a ++ Str.ofString ")")) ++ (Str.ofString " ")) ++ (Str.ofString "has(" ++ b ++ Str.ofString ")")) ++ (Str.ofString ")"))) := by
  intro tm n
  have ga := gm_m ha
  have gb := gm_m hb
  have a41 := fun r => tw_mark (r := r) (c := 41) ha (by decide)
  have a44 := fun r => tw_mark (r := r) (c := 44) ha (by decide)
  have b41 := fun r => tw_mark (r := r) (c := 41) hb (by decide)
  have b44 := fun r => tw_mark (r := r) (c := 44) hb (by decide)
  have a0 := tw_end ha
  have au := fun r => up_tw (r := r) ha
  have af := fun r => mark_fig (r := r) ha
  try simp only [chs_app, show chs (Str.ofString ")") = [41] by decide +kernel, show chs (Str.ofString " ") = [32] by decide +kernel, show chs (Str.ofString "all(") = [97, 108, 108, 40] by decide +kernel, show chs (Str.ofString "has(") = [104, 97, 115, 40] by decide +kernel, List.cons_append, List.nil_append, List.append_assoc, List.append_nil]
  simp [nx8, nx7, nx6, List.takeWhile_cons, List.dropWhile_cons, List.takeWhile_nil, List.dropWhile_nil, ltD, fgD, sg_c, sg_n, pMark, gm_c, gm_n, cp_c, cp_n, pInside, wHas, wMany, wBefore, wUnder, wBeside, wAll, wAny, wNot, pMany, pNum, goodNum, pPair, pJoint, pp61, pp60, pp59, valN, ga, gb, a41, a44, b41, b44, a0, af, au]
theorem go8 {a b : Str} (ha : markS a = true) (hb : markS b = true) : Ref (chs (((((Str.ofString "any(") ++ a) ++ (Str.ofString ",")) ++ b) ++ (Str.ofString ")"))) := by
  intro tm n
  have ga := gm_m ha
  have gb := gm_m hb
  have a41 := fun r => tw_mark (r := r) (c := 41) ha (by decide)
  have a44 := fun r => tw_mark (r := r) (c := 44) ha (by decide)
  have b41 := fun r => tw_mark (r := r) (c := 41) hb (by decide)
  have b44 := fun r => tw_mark (r := r) (c := 44) hb (by decide)
  have a0 := tw_end ha
  have au := fun r => up_tw (r := r) ha
  have af := fun r => mark_fig (r := r) ha
  try simp only [chs_app, show chs (Str.ofString ")") = [41] by decide +kernel, show chs (Str.ofString ",") = [44] by decide +kernel, show chs (Str.ofString "any(") = [97, 110, 121, 40] by decide +kernel, show chs (Str.ofString "has(") = [104, 97, 115, 40] by decide +kernel, List.cons_append, List.nil_append, List.append_assoc, List.append_nil]
  simp [nx8, nx7, nx6, List.takeWhile_cons, List.dropWhile_cons, List.takeWhile_nil, List.dropWhile_nil, ltD, fgD, sg_c, sg_n, pMark, gm_c, gm_n, cp_c, cp_n, pInside, wHas, wMany, wBefore, wUnder, wBeside, wAll, wAny, wNot, pMany, pNum, goodNum, pPair, pJoint, pp61, pp60, pp59, valN, ga, gb, a41, a44, b41, b44, a0, af, au]
theorem go9 {a b : Str} (ha : markS a = true) (hb : markS b = true) : Ref (chs ((((Str.ofString "all(") ++ (Str.ofString "has(" ++ a ++ Str.ofString ")")) ++ (Str.ofString ",")) ++ (Str.ofString "has(" ++ b ++ Str.ofString ")"))) := by
  intro tm n
  have ga := gm_m ha
  have gb := gm_m hb
  have a41 := fun r => tw_mark (r := r) (c := 41) ha (by decide)
  have a44 := fun r => tw_mark (r := r) (c := 44) ha (by decide)
  have b41 := fun r => tw_mark (r := r) (c := 41) hb (by decide)
  have b44 := fun r => tw_mark (r := r) (c := 44) hb (by decide)
  have a0 := tw_end ha
  have au := fun r => up_tw (r := r) ha
  have af := fun r => mark_fig (r := r) ha
  try simp only [chs_app, show chs (Str.ofString ",") = [44] by decide +kernel, show chs (Str.ofString "all(") = [97, 108, 108, 40] by decide +kernel, show chs (Str.ofString "has(") = [104, 97, 115, 40] by decide +kernel, show chs (Str.ofString ")") = [41] by decide +kernel, List.cons_append, List.nil_append, List.append_assoc, List.append_nil]
  simp [nx8, nx7, nx6, List.takeWhile_cons, List.dropWhile_cons, List.takeWhile_nil, List.dropWhile_nil, ltD, fgD, sg_c, sg_n, pMark, gm_c, gm_n, cp_c, cp_n, pInside, wHas, wMany, wBefore, wUnder, wBeside, wAll, wAny, wNot, pMany, pNum, goodNum, pPair, pJoint, pp61, pp60, pp59, valN, ga, gb, a41, a44, b41, b44, a0, af, au]
theorem go10 {a b : Str} (ha : markS a = true) (hb : markS b = true) : Ref (chs (((Str.ofString "not(") ++ a) ++ (Str.ofString ")"))) := by
  intro tm n
  have ga := gm_m ha
  have gb := gm_m hb
  have a41 := fun r => tw_mark (r := r) (c := 41) ha (by decide)
  have a44 := fun r => tw_mark (r := r) (c := 44) ha (by decide)
  have b41 := fun r => tw_mark (r := r) (c := 41) hb (by decide)
  have b44 := fun r => tw_mark (r := r) (c := 44) hb (by decide)
  have a0 := tw_end ha
  have au := fun r => up_tw (r := r) ha
  have af := fun r => mark_fig (r := r) ha
  try simp only [chs_app, show chs (Str.ofString ")") = [41] by decide +kernel, show chs (Str.ofString "not(") = [110, 111, 116, 40] by decide +kernel, show chs (Str.ofString "has(") = [104, 97, 115, 40] by decide +kernel, List.cons_append, List.nil_append, List.append_assoc, List.append_nil]
  simp [nx8, nx7, nx6, List.takeWhile_cons, List.dropWhile_cons, List.takeWhile_nil, List.dropWhile_nil, ltD, fgD, sg_c, sg_n, pMark, gm_c, gm_n, cp_c, cp_n, pInside, wHas, wMany, wBefore, wUnder, wBeside, wAll, wAny, wNot, pMany, pNum, goodNum, pPair, pJoint, pp61, pp60, pp59, valN, ga, gb, a41, a44, b41, b44, a0, af, au]
theorem go11 {a b : Str} (ha : markS a = true) (hb : markS b = true) : Ref (chs (((((Str.ofString "all(") ++ (Str.ofString "has(" ++ a ++ Str.ofString ")")) ++ (Str.ofString ",")) ++ (Str.ofString "has(" ++ b ++ Str.ofString ")")) ++ (Str.ofString "))"))) := by
  intro tm n
  have ga := gm_m ha
  have gb := gm_m hb
  have a41 := fun r => tw_mark (r := r) (c := 41) ha (by decide)
  have a44 := fun r => tw_mark (r := r) (c := 44) ha (by decide)
  have b41 := fun r => tw_mark (r := r) (c := 41) hb (by decide)
  have b44 := fun r => tw_mark (r := r) (c := 44) hb (by decide)
  have a0 := tw_end ha
  have au := fun r => up_tw (r := r) ha
  have af := fun r => mark_fig (r := r) ha
  try simp only [chs_app, show chs (Str.ofString "))") = [41, 41] by decide +kernel, show chs (Str.ofString ",") = [44] by decide +kernel, show chs (Str.ofString "all(") = [97, 108, 108, 40] by decide +kernel, show chs (Str.ofString "has(") = [104, 97, 115, 40] by decide +kernel, show chs (Str.ofString ")") = [41] by decide +kernel, List.cons_append, List.nil_append, List.append_assoc, List.append_nil]
  simp [nx8, nx7, nx6, List.takeWhile_cons, List.dropWhile_cons, List.takeWhile_nil, List.dropWhile_nil, ltD, fgD, sg_c, sg_n, pMark, gm_c, gm_n, cp_c, cp_n, pInside, wHas, wMany, wBefore, wUnder, wBeside, wAll, wAny, wNot, pMany, pNum, goodNum, pPair, pJoint, pp61, pp60, pp59, valN, ga, gb, a41, a44, b41, b44, a0, af, au]
theorem go12 {a b : Str} (ha : markS a = true) (hb : markS b = true) : Ref (chs ((Str.ofString "not") ++ (Str.ofString "has(" ++ a ++ Str.ofString ")"))) := by
  intro tm n
  have ga := gm_m ha
  have gb := gm_m hb
  have a41 := fun r => tw_mark (r := r) (c := 41) ha (by decide)
  have a44 := fun r => tw_mark (r := r) (c := 44) ha (by decide)
  have b41 := fun r => tw_mark (r := r) (c := 41) hb (by decide)
  have b44 := fun r => tw_mark (r := r) (c := 44) hb (by decide)
  have a0 := tw_end ha
  have au := fun r => up_tw (r := r) ha
  have af := fun r => mark_fig (r := r) ha
  try simp only [chs_app, show chs (Str.ofString "not") = [110, 111, 116] by decide +kernel, show chs (Str.ofString "has(") = [104, 97, 115, 40] by decide +kernel, show chs (Str.ofString ")") = [41] by decide +kernel, List.cons_append, List.nil_append, List.append_assoc, List.append_nil]
  simp [nx8, nx7, nx6, List.takeWhile_cons, List.dropWhile_cons, List.takeWhile_nil, List.dropWhile_nil, ltD, fgD, sg_c, sg_n, pMark, gm_c, gm_n, cp_c, cp_n, pInside, wHas, wMany, wBefore, wUnder, wBeside, wAll, wAny, wNot, pMany, pNum, goodNum, pPair, pJoint, pp61, pp60, pp59, valN, ga, gb, a41, a44, b41, b44, a0, af, au]
theorem go13 {a b : Str} (ha : markS a = true) (hb : markS b = true) : Ref (chs (((((Str.ofString "either(") ++ (Str.ofString "has(" ++ a ++ Str.ofString ")")) ++ (Str.ofString ",")) ++ (Str.ofString "has(" ++ b ++ Str.ofString ")")) ++ (Str.ofString ")"))) := by
  intro tm n
  have ga := gm_m ha
  have gb := gm_m hb
  have a41 := fun r => tw_mark (r := r) (c := 41) ha (by decide)
  have a44 := fun r => tw_mark (r := r) (c := 44) ha (by decide)
  have b41 := fun r => tw_mark (r := r) (c := 41) hb (by decide)
  have b44 := fun r => tw_mark (r := r) (c := 44) hb (by decide)
  have a0 := tw_end ha
  have au := fun r => up_tw (r := r) ha
  have af := fun r => mark_fig (r := r) ha
  try simp only [chs_app, show chs (Str.ofString ")") = [41] by decide +kernel, show chs (Str.ofString ",") = [44] by decide +kernel, show chs (Str.ofString "either(") = [101, 105, 116, 104, 101, 114, 40] by decide +kernel, show chs (Str.ofString "has(") = [104, 97, 115, 40] by decide +kernel, List.cons_append, List.nil_append, List.append_assoc, List.append_nil]
  simp [nx8, nx7, nx6, List.takeWhile_cons, List.dropWhile_cons, List.takeWhile_nil, List.dropWhile_nil, ltD, fgD, sg_c, sg_n, pMark, gm_c, gm_n, cp_c, cp_n, pInside, wHas, wMany, wBefore, wUnder, wBeside, wAll, wAny, wNot, pMany, pNum, goodNum, pPair, pJoint, pp61, pp60, pp59, valN, ga, gb, a41, a44, b41, b44, a0, af, au]
theorem go14 {a b : Str} (ha : markS a = true) (hb : markS b = true) : Ref (chs (((Str.ofString "(") ++ (Str.ofString "has(" ++ a ++ Str.ofString ")")) ++ (Str.ofString ")"))) := by
  intro tm n
  have ga := gm_m ha
  have gb := gm_m hb
  have a41 := fun r => tw_mark (r := r) (c := 41) ha (by decide)
  have a44 := fun r => tw_mark (r := r) (c := 44) ha (by decide)
  have b41 := fun r => tw_mark (r := r) (c := 41) hb (by decide)
  have b44 := fun r => tw_mark (r := r) (c := 44) hb (by decide)
  have a0 := tw_end ha
  have au := fun r => up_tw (r := r) ha
  have af := fun r => mark_fig (r := r) ha
  try simp only [chs_app, show chs (Str.ofString ")") = [41] by decide +kernel, show chs (Str.ofString "(") = [40] by decide +kernel, show chs (Str.ofString "has(") = [104, 97, 115, 40] by decide +kernel, List.cons_append, List.nil_append, List.append_assoc, List.append_nil]
  simp [nx8, nx7, nx6, List.takeWhile_cons, List.dropWhile_cons, List.takeWhile_nil, List.dropWhile_nil, ltD, fgD, sg_c, sg_n, pMark, gm_c, gm_n, cp_c, cp_n, pInside, wHas, wMany, wBefore, wUnder, wBeside, wAll, wAny, wNot, pMany, pNum, goodNum, pPair, pJoint, pp61, pp60, pp59, valN, ga, gb, a41, a44, b41, b44, a0, af, au]
theorem go15 {a b : Str} (ha : markS a = true) (hb : markS b = true) : Ref (chs (((((Str.ofString "all(") ++ (Str.ofString "has(" ++ a ++ Str.ofString ")")) ++ (Str.ofString ";")) ++ (Str.ofString "has(" ++ b ++ Str.ofString ")")) ++ (Str.ofString ")"))) := by
  intro tm n
  have ga := gm_m ha
  have gb := gm_m hb
  have a41 := fun r => tw_mark (r := r) (c := 41) ha (by decide)
  have a44 := fun r => tw_mark (r := r) (c := 44) ha (by decide)
  have b41 := fun r => tw_mark (r := r) (c := 41) hb (by decide)
  have b44 := fun r => tw_mark (r := r) (c := 44) hb (by decide)
  have a0 := tw_end ha
  have au := fun r => up_tw (r := r) ha
  have af := fun r => mark_fig (r := r) ha
  try simp only [chs_app, show chs (Str.ofString ")") = [41] by decide +kernel, show chs (Str.ofString ";") = [59] by decide +kernel, show chs (Str.ofString "all(") = [97, 108, 108, 40] by decide +kernel, show chs (Str.ofString "has(") = [104, 97, 115, 40] by decide +kernel, List.cons_append, List.nil_append, List.append_assoc, List.append_nil]
  simp [nx8, nx7, nx6, List.takeWhile_cons, List.dropWhile_cons, List.takeWhile_nil, List.dropWhile_nil, ltD, fgD, sg_c, sg_n, pMark, gm_c, gm_n, cp_c, cp_n, pInside, wHas, wMany, wBefore, wUnder, wBeside, wAll, wAny, wNot, pMany, pNum, goodNum, pPair, pJoint, pp61, pp60, pp59, valN, ga, gb, a41, a44, b41, b44, a0, af, au]
theorem go16 {a b : Str} (ha : markS a = true) (hb : markS b = true) : Ref (chs ((Str.ofString "not(") ++ (Str.ofString "has(" ++ a ++ Str.ofString ")"))) := by
  intro tm n
  have ga := gm_m ha
  have gb := gm_m hb
  have a41 := fun r => tw_mark (r := r) (c := 41) ha (by decide)
  have a44 := fun r => tw_mark (r := r) (c := 44) ha (by decide)
  have b41 := fun r => tw_mark (r := r) (c := 41) hb (by decide)
  have b44 := fun r => tw_mark (r := r) (c := 44) hb (by decide)
  have a0 := tw_end ha
  have au := fun r => up_tw (r := r) ha
  have af := fun r => mark_fig (r := r) ha
  try simp only [chs_app, show chs (Str.ofString "not(") = [110, 111, 116, 40] by decide +kernel, show chs (Str.ofString "has(") = [104, 97, 115, 40] by decide +kernel, show chs (Str.ofString ")") = [41] by decide +kernel, List.cons_append, List.nil_append, List.append_assoc, List.append_nil]
  simp [nx8, nx7, nx6, List.takeWhile_cons, List.dropWhile_cons, List.takeWhile_nil, List.dropWhile_nil, ltD, fgD, sg_c, sg_n, pMark, gm_c, gm_n, cp_c, cp_n, pInside, wHas, wMany, wBefore, wUnder, wBeside, wAll, wAny, wNot, pMany, pNum, goodNum, pPair, pJoint, pp61, pp60, pp59, valN, ga, gb, a41, a44, b41, b44, a0, af, au]
theorem fold_read {K : PySem.W.Frag} {x0 x1 x2 x3 x5 x6 x7 : Option V} {H : Hp} {p : Addr} {vs : List V} {sz : Nat} {tw : TE} {Q : VK} (hp : H p = some (.lst vs)) (z0 : 0 < sz) (zl : sz ≤ vs.length) (l20 : vs.length ≤ 20)
    (hw : ∀ (J : Hp) (R : VK), Same H J → (∀ bb J', Same J J' → R (.str (wJ bb)) J') → tw [x0, x1, x2, x3, some (.ref p), x5, x6, x7, some (.int (sz : Nat))] J R)
    (k : ∀ bb q6 q8 J8, Same H J8 → H q8 = none → J8 q6 = some (.tup (.str (wJ bb) :: vs.drop (vs.length - sz))) → J8 q8 = some (.lst (vs.take (vs.length - sz) ++ [.ref q6])) → Q (.ref q8) J8) :
    (tOp rCat (tSl (rSlL K) (tVar 4) tNoPart (tPart (tUn (rU fun i => V.int (-i)) (tVar 8)))) (tLst (tCons (tOp (rCatT K) (tTup (tCons tw tNil)) (tCB (rTupL K) (tCons (tSl (rSlL K) (tVar 4) (tPart (tUn (rU fun i => V.int (-i)) (tVar 8))) tNoPart) tNil))) tNil))) [x0, x1, x2, x3, some (.ref p), x5, x6, x7, some (.int (sz : Nat))] H Q := by
  and_intros
  refine ⟨_, SqL.of hp, fun q1 h1 => ?_⟩
  rw [cut_toN (n := sz) z0 zl]
  have t1 := Same.put (o := .lst (vs.take (vs.length - sz))) h1
  have g1 : (upd H q1 (.lst (vs.take (vs.length - sz)))) q1 = some (.lst (vs.take (vs.length - sz))) := upd_same
  generalize (upd H q1 (.lst (vs.take (vs.length - sz)))) = J1 at t1 g1 ⊢
  refine hw J1 _ t1 fun bb J2 t2 => ?_
  have t12 := t1.trans t2
  have g12 := t2 _ _ g1
  refine ⟨by decide, fun q3 h3 => ?_⟩
  have t3 := Same.put (o := .tup [.str (wJ bb)]) h3
  have g3 : (upd J2 q3 (.tup [.str (wJ bb)])) q3 = some (.tup [.str (wJ bb)]) := upd_same
  generalize (upd J2 q3 (.tup [.str (wJ bb)])) = J3 at t3 g3 ⊢
  refine ⟨_, SqL.of (t3 _ _ (t12 _ _ hp)), fun q4 h4 => ?_⟩
  rw [cut_fromN (n := sz) z0 zl]
  have t4 := Same.put (o := .lst (vs.drop (vs.length - sz))) h4
  have g4 : (upd J3 q4 (.lst (vs.drop (vs.length - sz)))) q4 = some (.lst (vs.drop (vs.length - sz))) := upd_same
  generalize (upd J3 q4 (.lst (vs.drop (vs.length - sz)))) = J4 at t4 g4 ⊢
  refine ⟨_, SqL.of g4, fun q5 h5 => ?_⟩
  have t5 := Same.put (o := .tup (vs.drop (vs.length - sz))) h5
  have g5 : (upd J4 q5 (.tup (vs.drop (vs.length - sz)))) q5 = some (.tup (vs.drop (vs.length - sz))) := upd_same
  generalize (upd J4 q5 (.tup (vs.drop (vs.length - sz)))) = J5 at t5 g5 ⊢
  have ne : vs.drop (vs.length - sz) ≠ [] := fun e => by
    have := congrArg List.length e
    rw [List.length_drop, List.length_nil] at this
    omega
  refine ⟨_, SqT.of (t5 _ _ (t4 _ _ g3)), _, SqT.of g5, by simp, ?_, fun e => absurd e ne, fun _ q6 h6 => ?_⟩
  · exact Nat.le_of_lt (small1000 (by rw [List.length_drop]; simp only [List.length_cons, List.length_nil]; omega))
  have t6 := Same.put (o := .tup ([.str (wJ bb)] ++ vs.drop (vs.length - sz))) h6
  have g6 : (upd J5 q6 (.tup ([.str (wJ bb)] ++ vs.drop (vs.length - sz)))) q6 = some (.tup (.str (wJ bb) :: vs.drop (vs.length - sz))) := upd_same
  generalize (upd J5 q6 (.tup ([.str (wJ bb)] ++ vs.drop (vs.length - sz)))) = J6 at t6 g6 ⊢
  refine ⟨by decide, fun q7 h7 => ?_⟩
  have t7 := Same.put (o := .lst [.ref q6]) h7
  have g7 : (upd J6 q7 (.lst [.ref q6])) q7 = some (.lst [.ref q6]) := upd_same
  generalize (upd J6 q7 (.lst [.ref q6])) = J7 at t7 g7 ⊢
  have t37 := (((t3.trans t4).trans t5).trans t6).trans t7
  refine ⟨_, t37 _ _ g12, _, g7, ?_, fun q8 h8 => ?_⟩
  · exact Nat.le_of_lt (small1000 (by rw [List.length_take]; simp only [List.length_cons, List.length_nil]; omega))
  have t17 := t12.trans t37
  exact k bb q6 q8 _ (t17.upd h8) (Same.free t17 h8) ((Same.put h8) _ _ (t7 _ _ g6)) upd_same
theorem op_open {r : R2} {ta tb : TE} {σ : St} {H : Hp} {Q : VK} (S : V → Hp → Prop) (h1 : ∀ Q' : VK, (∀ x H1, S x H1 → Q' x H1) → ta σ H Q') (h2 : ∀ x H1, S x H1 → tb σ H1 fun y H2 => r x y H2 Q) : tOp r ta tb σ H Q := h1 _ h2
def sp__law_wide : Sp := fun vs H Q _ => ∃ (a : Str) (m : Nat), vs = [.str (textT (.has a)), .int (m : Int)] ∧ markS a = true ∧ 2 ≤ m ∧ m ≤ 6 ∧ ∀ H', Same H H' → Q (.str (textT (wideT a m))) H'
theorem andV_open {ta tb : TE} {σ : St} {H : Hp} {Q : VK} (S : V → Hp → Prop) (h1 : ∀ Q' : VK, (∀ x H1, S x H1 → Q' x H1) → ta σ H Q') (h2 : ∀ x H1, S x H1 → ∃ c, x = .bl c ∧ if c = true then tb σ H1 Q else Q (.bl false) H1) : tAndV ta tb σ H Q := h1 _ h2
theorem lst_new {H : Hp} {p : Addr} {xs : List V} {P : Hp → Prop} (hp : H p = none) (h : ∀ H1, Same H H1 → H1 p = some (.lst xs) → P H1) : P (upd H p (.lst xs)) := h _ (Same.put hp) upd_same
def poL0 (a b : Str) : List Str := [(Str.ofString ""), (Str.ofString "has"), (Str.ofString "has("), (Str.ofString "has()"), ((Str.ofString "has(") ++ a), (((Str.ofString "has(") ++ a) ++ (Str.ofString "))")), (((((Str.ofString "has(") ++ a) ++ (Str.ofString ",")) ++ b) ++ (Str.ofString ")")), (((Str.ofString "has (") ++ a) ++ (Str.ofString ")"))]
def poL1 (a b : Str) : List Str := [(((Str.ofString "Has(") ++ a) ++ (Str.ofString ")")), (((Str.ofString "has(") ++ (Txt.upper a)) ++ (Str.ofString ")")), (Str.ofString "has(a1)"), (Str.ofString "has(abcdefghi)"), (((Str.ofString " has(") ++ a) ++ (Str.ofString ")"))]
def poL2 (a b : Str) : List Str := [(((Str.ofString "has(") ++ a) ++ (Str.ofString ") ")), (((((Str.ofString "has(") ++ a) ++ (Str.ofString "),has(")) ++ b) ++ (Str.ofString ")")), (((Str.ofString "many(") ++ a) ++ (Str.ofString ")")), (((Str.ofString "many(0,") ++ a) ++ (Str.ofString ")"))]
def poL3 (a b : Str) : List Str := [(((Str.ofString "many(01,") ++ a) ++ (Str.ofString ")")), (((Str.ofString "many(1234567890,") ++ a) ++ (Str.ofString ")")), (((Str.ofString "many(-1,") ++ a) ++ (Str.ofString ")")), (((Str.ofString "many(,") ++ a) ++ (Str.ofString ")"))]
def poL4 (a b : Str) : List Str := [(((((Str.ofString "many(1,") ++ a) ++ (Str.ofString ",")) ++ b) ++ (Str.ofString ")")), (((Str.ofString "many(") ++ a) ++ (Str.ofString ",1)")), (((Str.ofString "many(1, ") ++ a) ++ (Str.ofString ")")), (Str.ofString "many(1)"), (Str.ofString "many()")]
def poL5 (a b : Str) : List Str := [(((Str.ofString "many(1_0,") ++ a) ++ (Str.ofString ")")), (((Str.ofString "many(+1,") ++ a) ++ (Str.ofString ")")), (((Str.ofString "has(") ++ a) ++ (Str.ofString ")\n")), (((Str.ofString "\thas(") ++ a) ++ (Str.ofString ")"))]
def poL6 (a b : Str) : List Str := [(((Str.ofString "before(") ++ a) ++ (Str.ofString ")")), (((((((Str.ofString "before(") ++ a) ++ (Str.ofString ",")) ++ b) ++ (Str.ofString ",")) ++ b) ++ (Str.ofString ")")), (((((Str.ofString "before(") ++ a) ++ (Str.ofString ", ")) ++ b) ++ (Str.ofString ")"))]
def poL7 (a b : Str) : List Str := [(Str.ofString "under()"), (((Str.ofString "beside(") ++ a) ++ (Str.ofString ",)")), (((Str.ofString "(") ++ a) ++ (Str.ofString ")")), a, (((((Str.ofString "has(") ++ a) ++ (Str.ofString ")has(")) ++ b) ++ (Str.ofString ")")), (Str.ofString "()"), (Str.ofString ")"), (Str.ofString ",")]
theorem po_all {a b : Str} (ha : markS a = true) (hb : markS b = true) : ∀ x ∈ poL0 a b ++ poL1 a b ++ poL2 a b ++ poL3 a b ++ poL4 a b ++ poL5 a b ++ poL6 a b ++ poL7 a b, x.length ≤ 1000 ∧ Ref (chs x) := by
  have e0 : (Str.ofString "").length = 0 := by decide +kernel
  have e1 : (Str.ofString "has").length = 3 := by decide +kernel
  have e2 : (Str.ofString "has(").length = 4 := by decide +kernel
  have e3 : (Str.ofString "has()").length = 5 := by decide +kernel
  have e4 : (Str.ofString "))").length = 2 := by decide +kernel
  have e5 : (Str.ofString ")").length = 1 := by decide +kernel
  have e6 : (Str.ofString ",").length = 1 := by decide +kernel
  have e7 : (Str.ofString "has (").length = 5 := by decide +kernel
  have e8 : (Str.ofString "Has(").length = 4 := by decide +kernel
  have e9 : (Str.ofString "has(a1)").length = 7 := by decide +kernel
  have e10 : (Str.ofString "has(abcdefghi)").length = 14 := by decide +kernel
  have e11 : (Str.ofString " has(").length = 5 := by decide +kernel
  have e12 : (Str.ofString ") ").length = 2 := by decide +kernel
  have e13 : (Str.ofString "),has(").length = 6 := by decide +kernel
  have e14 : (Str.ofString "many(").length = 5 := by decide +kernel
  have e15 : (Str.ofString "many(0,").length = 7 := by decide +kernel
  have e16 : (Str.ofString "many(01,").length = 8 := by decide +kernel
  have e17 : (Str.ofString "many(1234567890,").length = 16 := by decide +kernel
  have e18 : (Str.ofString "many(-1,").length = 8 := by decide +kernel
  have e19 : (Str.ofString "many(,").length = 6 := by decide +kernel
  have e20 : (Str.ofString "many(1,").length = 7 := by decide +kernel
  have e21 : (Str.ofString ",1)").length = 3 := by decide +kernel
  have e22 : (Str.ofString "many(1, ").length = 8 := by decide +kernel
  have e23 : (Str.ofString "many(1)").length = 7 := by decide +kernel
  have e24 : (Str.ofString "many()").length = 6 := by decide +kernel
  have e25 : (Str.ofString "many(1_0,").length = 9 := by decide +kernel
  have e26 : (Str.ofString "many(+1,").length = 8 := by decide +kernel
  have e27 : (Str.ofString ")\n").length = 2 := by decide +kernel
  have e28 : (Str.ofString "\thas(").length = 5 := by decide +kernel
  have e29 : (Str.ofString "before(").length = 7 := by decide +kernel
  have e30 : (Str.ofString ", ").length = 2 := by decide +kernel
  have e31 : (Str.ofString "under()").length = 7 := by decide +kernel
  have e32 : (Str.ofString ",)").length = 2 := by decide +kernel
  have e33 : (Str.ofString "beside(").length = 7 := by decide +kernel
  have e34 : (Str.ofString "(").length = 1 := by decide +kernel
  have e35 : (Str.ofString ")has(").length = 5 := by decide +kernel
  have e36 : (Str.ofString "()").length = 2 := by decide +kernel
  have la := (mark_all ha).2.1
  have lb := (mark_all hb).2.1
  have eu : (Txt.upper a).length = a.length := by have := congrArg List.length (upper_chs ha); rw [List.length_map] at this; simpa [Str.length] using this
  have lf : ∀ {x : Str} {n : Nat}, x.length ≤ n → n ≤ 1000 → x.length ≤ 1000 := fun h1 h2 => Nat.le_trans h1 h2
  intro x hx
  simp only [List.mem_append] at hx
  rcases hx with ((((((hx | hx) | hx) | hx) | hx) | hx) | hx) | hx
  · revert x
    refine List.forall_mem_cons.mpr ⟨⟨by (try simp only [Str.length_append]); omega, po0 ha hb⟩, ?_⟩
    refine List.forall_mem_cons.mpr ⟨⟨by (try simp only [Str.length_append]); omega, po1 ha hb⟩, ?_⟩
    refine List.forall_mem_cons.mpr ⟨⟨by (try simp only [Str.length_append]); omega, po2 ha hb⟩, ?_⟩
    refine List.forall_mem_cons.mpr ⟨⟨by (try simp only [Str.length_append]); omega, po3 ha hb⟩, ?_⟩
    refine List.forall_mem_cons.mpr ⟨⟨by (try simp only [Str.length_append]); omega, po4 ha hb⟩, ?_⟩
    refine List.forall_mem_cons.mpr ⟨⟨by (try simp only [Str.length_append]); omega, po5 ha hb⟩, ?_⟩
    refine List.forall_mem_cons.mpr ⟨⟨by (try simp only [Str.length_append]); omega, po6 ha hb⟩, ?_⟩
    refine List.forall_mem_cons.mpr ⟨⟨by (try simp only [Str.length_append]); omega, po7 ha hb⟩, ?_⟩
    exact fun x hx => nomatch hx
  · revert x
    refine List.forall_mem_cons.mpr ⟨⟨by (try simp only [Str.length_append]); omega, po8 ha hb⟩, ?_⟩
    refine List.forall_mem_cons.mpr ⟨⟨by (try simp only [Str.length_append]); omega, po9 ha hb⟩, ?_⟩
    refine List.forall_mem_cons.mpr ⟨⟨by (try simp only [Str.length_append]); omega, po10 ha hb⟩, ?_⟩
    refine List.forall_mem_cons.mpr ⟨⟨by (try simp only [Str.length_append]); omega, po11 ha hb⟩, ?_⟩
    refine List.forall_mem_cons.mpr ⟨⟨by (try simp only [Str.length_append]); omega, po12 ha hb⟩, ?_⟩
    exact fun x hx => nomatch hx
  · revert x
    refine List.forall_mem_cons.mpr ⟨⟨by (try simp only [Str.length_append]); omega, po13 ha hb⟩, ?_⟩
    refine List.forall_mem_cons.mpr ⟨⟨by (try simp only [Str.length_append]); omega, po14 ha hb⟩, ?_⟩
    refine List.forall_mem_cons.mpr ⟨⟨by (try simp only [Str.length_append]); omega, po15 ha hb⟩, ?_⟩
    refine List.forall_mem_cons.mpr ⟨⟨by (try simp only [Str.length_append]); omega, po16 ha hb⟩, ?_⟩
    exact fun x hx => nomatch hx
  · revert x
    refine List.forall_mem_cons.mpr ⟨⟨by (try simp only [Str.length_append]); omega, po17 ha hb⟩, ?_⟩
    refine List.forall_mem_cons.mpr ⟨⟨by (try simp only [Str.length_append]); omega, po18 ha hb⟩, ?_⟩
    refine List.forall_mem_cons.mpr ⟨⟨by (try simp only [Str.length_append]); omega, po19 ha hb⟩, ?_⟩
    refine List.forall_mem_cons.mpr ⟨⟨by (try simp only [Str.length_append]); omega, po20 ha hb⟩, ?_⟩
    exact fun x hx => nomatch hx
  · revert x
    refine List.forall_mem_cons.mpr ⟨⟨by (try simp only [Str.length_append]); omega, po21 ha hb⟩, ?_⟩
    refine List.forall_mem_cons.mpr ⟨⟨by (try simp only [Str.length_append]); omega, po22 ha hb⟩, ?_⟩
    refine List.forall_mem_cons.mpr ⟨⟨by (try simp only [Str.length_append]); omega, po23 ha hb⟩, ?_⟩
    refine List.forall_mem_cons.mpr ⟨⟨by (try simp only [Str.length_append]); omega, po24 ha hb⟩, ?_⟩
    refine List.forall_mem_cons.mpr ⟨⟨by (try simp only [Str.length_append]); omega, po25 ha hb⟩, ?_⟩
    exact fun x hx => nomatch hx
  · revert x
    refine List.forall_mem_cons.mpr ⟨⟨by (try simp only [Str.length_append]); omega, po26 ha hb⟩, ?_⟩
    refine List.forall_mem_cons.mpr ⟨⟨by (try simp only [Str.length_append]); omega, po27 ha hb⟩, ?_⟩
    refine List.forall_mem_cons.mpr ⟨⟨by (try simp only [Str.length_append]); omega, po28 ha hb⟩, ?_⟩
    refine List.forall_mem_cons.mpr ⟨⟨by (try simp only [Str.length_append]); omega, po29 ha hb⟩, ?_⟩
    exact fun x hx => nomatch hx
  · revert x
    refine List.forall_mem_cons.mpr ⟨⟨by (try simp only [Str.length_append]); omega, po30 ha hb⟩, ?_⟩
    refine List.forall_mem_cons.mpr ⟨⟨by (try simp only [Str.length_append]); omega, po31 ha hb⟩, ?_⟩
    refine List.forall_mem_cons.mpr ⟨⟨by (try simp only [Str.length_append]); omega, po32 ha hb⟩, ?_⟩
    exact fun x hx => nomatch hx
  · revert x
    refine List.forall_mem_cons.mpr ⟨⟨by (try simp only [Str.length_append]); omega, po33 ha hb⟩, ?_⟩
    refine List.forall_mem_cons.mpr ⟨⟨by (try simp only [Str.length_append]); omega, po34 ha hb⟩, ?_⟩
    refine List.forall_mem_cons.mpr ⟨⟨by (try simp only [Str.length_append]); omega, po35 ha hb⟩, ?_⟩
    refine List.forall_mem_cons.mpr ⟨⟨by (try simp only [Str.length_append]); omega, po36 ha hb⟩, ?_⟩
    refine List.forall_mem_cons.mpr ⟨⟨by (try simp only [Str.length_append]); omega, po37 ha hb⟩, ?_⟩
    refine List.forall_mem_cons.mpr ⟨⟨by (try simp only [Str.length_append]); omega, po38 ha hb⟩, ?_⟩
    refine List.forall_mem_cons.mpr ⟨⟨by (try simp only [Str.length_append]); omega, po39 ha hb⟩, ?_⟩
    refine List.forall_mem_cons.mpr ⟨⟨by (try simp only [Str.length_append]); omega, po40 ha hb⟩, ?_⟩
    exact fun x hx => nomatch hx
theorem jl_rep (k : Nat) (z : Str) : (Str.join (Str.ofString ",") (List.replicate k z)).length ≤ k * z.length + k := by
  have := StrLaws.join_length_le (Str.ofString ",") (List.replicate k z)
  rw [rep_sum, List.length_replicate, show (Str.ofString ",").length = 1 by decide +kernel] at this
  omega
def goL0 (a b : Str) : List Str := [(((Str.ofString "all(") ++ (Str.ofString "has(" ++ a ++ Str.ofString ")")) ++ (Str.ofString ")")), (((Str.ofString "any(") ++ (Str.ofString "has(" ++ a ++ Str.ofString ")")) ++ (Str.ofString ")")), (Str.ofString "all()"), (Str.ofString "not()"), (((((Str.ofString "not(") ++ (Str.ofString "has(" ++ a ++ Str.ofString ")")) ++ (Str.ofString ",")) ++ (Str.ofString "has(" ++ b ++ Str.ofString ")")) ++ (Str.ofString ")"))]
def goL1 (a b : Str) : List Str := [(((Str.ofString "all(") ++ (Str.ofString "has(" ++ a ++ Str.ofString ")")) ++ (Str.ofString ",)")), (((Str.ofString "all(,") ++ (Str.ofString "has(" ++ a ++ Str.ofString ")")) ++ (Str.ofString ")")), (((((Str.ofString "all(") ++ (Str.ofString "has(" ++ a ++ Str.ofString ")")) ++ (Str.ofString " ")) ++ (Str.ofString "has(" ++ b ++ Str.ofString ")")) ++ (Str.ofString ")")), (((((Str.ofString "any(") ++ a) ++ (Str.ofString ",")) ++ b) ++ (Str.ofString ")"))]
def goL2 (a b : Str) : List Str := [((((Str.ofString "all(") ++ (Str.ofString "has(" ++ a ++ Str.ofString ")")) ++ (Str.ofString ",")) ++ (Str.ofString "has(" ++ b ++ Str.ofString ")")), (((Str.ofString "not(") ++ a) ++ (Str.ofString ")")), (((((Str.ofString "all(") ++ (Str.ofString "has(" ++ a ++ Str.ofString ")")) ++ (Str.ofString ",")) ++ (Str.ofString "has(" ++ b ++ Str.ofString ")")) ++ (Str.ofString "))")), ((Str.ofString "not") ++ (Str.ofString "has(" ++ a ++ Str.ofString ")"))]
def goL3 (a b : Str) : List Str := [(((((Str.ofString "either(") ++ (Str.ofString "has(" ++ a ++ Str.ofString ")")) ++ (Str.ofString ",")) ++ (Str.ofString "has(" ++ b ++ Str.ofString ")")) ++ (Str.ofString ")")), (((Str.ofString "(") ++ (Str.ofString "has(" ++ a ++ Str.ofString ")")) ++ (Str.ofString ")")), (((((Str.ofString "all(") ++ (Str.ofString "has(" ++ a ++ Str.ofString ")")) ++ (Str.ofString ";")) ++ (Str.ofString "has(" ++ b ++ Str.ofString ")")) ++ (Str.ofString ")")), ((Str.ofString "not(") ++ (Str.ofString "has(" ++ a ++ Str.ofString ")"))]
def goL4 (a b : Str) : List Str := [Str.ofString "all(" ++ Str.join (Str.ofString ",") (List.replicate 7 (Str.ofString "has(" ++ a ++ Str.ofString ")")) ++ Str.ofString ")", Str.ofString "any(" ++ Str.join (Str.ofString ",") (List.replicate 7 (Str.ofString "has(" ++ b ++ Str.ofString ")")) ++ Str.ofString ")"]
def goL5 (a b : Str) : List Str := [Txt.mul (Str.ofString "not(") 8 ++ (Str.ofString "has(" ++ a ++ Str.ofString ")") ++ Txt.mul (Str.ofString ")") 8, textT (wideT a 3), textT (wideT b 6)]
theorem wide_len {a : Str} {m : Nat} (ha : markS a = true) (h : m ≤ 6) : (textT (wideT a m)).length ≤ 1000 := by
  have l := one_len13 ha
  have c1 : (Str.ofString ",").length = 1 := by decide +kernel
  have c2 : (Str.ofString "any(").length = 4 := by decide +kernel
  have c3 : (Str.ofString ")").length = 1 := by decide +kernel
  have c4 : (Str.ofString "all(").length = 4 := by decide +kernel
  have c5 : (Str.ofString ",any(").length = 5 := by decide +kernel
  have c6 : (Str.ofString "))").length = 2 := by decide +kernel
  have c7 : (Str.ofString "all(all(").length = 8 := by decide +kernel
  have c8 : (Str.ofString "),").length = 2 := by decide +kernel
  have j6 := jl_rep 6 (textT (.has a))
  have jm := jl_rep m (textT (.has a))
  have mm : m * (textT (.has a)).length ≤ 6 * 13 := Nat.mul_le_mul h l
  have j4 := jl_rep 4 (Str.ofString "any(" ++ textT (.has a) ++ Str.ofString "," ++ textT (.has a) ++ Str.ofString ")")
  have js := jl_rep 6 (Str.ofString "any(" ++ Str.join (Str.ofString ",") (List.replicate 6 (textT (.has a))) ++ Str.ofString ")")
  rw [← wide_text]
  simp only [Str.length_append] at *
  omega
theorem go_all {a b : Str} (ha : markS a = true) (hb : markS b = true) : ∀ x ∈ goL0 a b ++ goL1 a b ++ goL2 a b ++ goL3 a b ++ goL4 a b ++ goL5 a b, x.length ≤ 1000 ∧ Ref (chs x) := by
  have e0 : (Str.ofString ")").length = 1 := by decide +kernel
  have e1 : (Str.ofString "all(").length = 4 := by decide +kernel
  have e2 : (Str.ofString "any(").length = 4 := by decide +kernel
  have e3 : (Str.ofString "all()").length = 5 := by decide +kernel
  have e4 : (Str.ofString "not()").length = 5 := by decide +kernel
  have e5 : (Str.ofString ",").length = 1 := by decide +kernel
  have e6 : (Str.ofString "not(").length = 4 := by decide +kernel
  have e7 : (Str.ofString ",)").length = 2 := by decide +kernel
  have e8 : (Str.ofString "all(,").length = 5 := by decide +kernel
  have e9 : (Str.ofString " ").length = 1 := by decide +kernel
  have e10 : (Str.ofString "))").length = 2 := by decide +kernel
  have e11 : (Str.ofString "not").length = 3 := by decide +kernel
  have e12 : (Str.ofString "either(").length = 7 := by decide +kernel
  have e13 : (Str.ofString "(").length = 1 := by decide +kernel
  have e14 : (Str.ofString ";").length = 1 := by decide +kernel
  have e15 : (Str.ofString "has(").length = 4 := by decide +kernel
  have la := (mark_all ha).2.1
  have lb := (mark_all hb).2.1
  have j1 := jl_rep 7 (Str.ofString "has(" ++ a ++ Str.ofString ")")
  have j2 := jl_rep 7 (Str.ofString "has(" ++ b ++ Str.ofString ")")
  have lo : (Str.ofString "has(" ++ a ++ Str.ofString ")").length ≤ 13 := by simp only [Str.length_append]; omega
  have lt : (Str.ofString "has(" ++ b ++ Str.ofString ")").length ≤ 13 := by simp only [Str.length_append]; omega
  intro x hx
  simp only [List.mem_append] at hx
  rcases hx with ((((hx | hx) | hx) | hx) | hx) | hx
  · revert x
    refine List.forall_mem_cons.mpr ⟨⟨by (try simp only [Str.length_append]); omega, go0 ha hb⟩, ?_⟩
    refine List.forall_mem_cons.mpr ⟨⟨by (try simp only [Str.length_append]); omega, go1 ha hb⟩, ?_⟩
    refine List.forall_mem_cons.mpr ⟨⟨by (try simp only [Str.length_append]); omega, go2 ha hb⟩, ?_⟩
    refine List.forall_mem_cons.mpr ⟨⟨by (try simp only [Str.length_append]); omega, go3 ha hb⟩, ?_⟩
    refine List.forall_mem_cons.mpr ⟨⟨by (try simp only [Str.length_append]); omega, go4 ha hb⟩, ?_⟩
    exact fun x hx => nomatch hx
  · revert x
    refine List.forall_mem_cons.mpr ⟨⟨by (try simp only [Str.length_append]); omega, go5 ha hb⟩, ?_⟩
    refine List.forall_mem_cons.mpr ⟨⟨by (try simp only [Str.length_append]); omega, go6 ha hb⟩, ?_⟩
    refine List.forall_mem_cons.mpr ⟨⟨by (try simp only [Str.length_append]); omega, go7 ha hb⟩, ?_⟩
    refine List.forall_mem_cons.mpr ⟨⟨by (try simp only [Str.length_append]); omega, go8 ha hb⟩, ?_⟩
    exact fun x hx => nomatch hx
  · revert x
    refine List.forall_mem_cons.mpr ⟨⟨by (try simp only [Str.length_append]); omega, go9 ha hb⟩, ?_⟩
    refine List.forall_mem_cons.mpr ⟨⟨by (try simp only [Str.length_append]); omega, go10 ha hb⟩, ?_⟩
    refine List.forall_mem_cons.mpr ⟨⟨by (try simp only [Str.length_append]); omega, go11 ha hb⟩, ?_⟩
    refine List.forall_mem_cons.mpr ⟨⟨by (try simp only [Str.length_append]); omega, go12 ha hb⟩, ?_⟩
    exact fun x hx => nomatch hx
  · revert x
    refine List.forall_mem_cons.mpr ⟨⟨by (try simp only [Str.length_append]); omega, go13 ha hb⟩, ?_⟩
    refine List.forall_mem_cons.mpr ⟨⟨by (try simp only [Str.length_append]); omega, go14 ha hb⟩, ?_⟩
    refine List.forall_mem_cons.mpr ⟨⟨by (try simp only [Str.length_append]); omega, go15 ha hb⟩, ?_⟩
    refine List.forall_mem_cons.mpr ⟨⟨by (try simp only [Str.length_append]); omega, go16 ha hb⟩, ?_⟩
    exact fun x hx => nomatch hx
  · revert x
    refine List.forall_mem_cons.mpr ⟨⟨by simp only [Str.length_append] at *; omega, by rw [one_is]; exact seven_no ha true _ (by decide +kernel)⟩, ?_⟩
    refine List.forall_mem_cons.mpr ⟨⟨by simp only [Str.length_append] at *; omega, by rw [one_is]; exact seven_no hb false _ (by decide +kernel)⟩, ?_⟩
    exact fun x hx => nomatch hx
  · revert x
    have rh : rdT (.has a) := by unfold rdT; exact ha
    have w3 := wide_rd ha (show 2 ≤ 3 by decide) (show 3 ≤ 6 by decide)
    have w6 := wide_rd hb (show 2 ≤ 6 by decide) (show 6 ≤ 6 by decide)
    have n8 := nots_sz (.has a) 8
    have t8 := text30 _ (nots_rd rh 8)
    refine List.forall_mem_cons.mpr ⟨?_, List.forall_mem_cons.mpr ⟨?_, List.forall_mem_cons.mpr ⟨?_, fun x hx => nomatch hx⟩⟩⟩
    · rw [one_is, nots8]
      refine ⟨?_, ref_of (nots_rd rh 8) (.inl (by rw [nots_dp]; omega))⟩
      rw [n8] at t8
      unfold szT at t8
      omega
    · exact ⟨wide_len ha (by decide), ref_of w3 (.inr (by rw [wide_sz]; decide))⟩
    · exact ⟨wide_len hb (by decide), ref_of w6 (.inr (by rw [wide_sz]; decide))⟩
section
variable {P : Program} {w : World} {K : PySem.W.Frag} {mg : Str → Option Value} {base : Heap} {ad : Adr}
theorem ok_written {f : Addr} {fd : FuncData} (D : Def K mg "written" s_written ["word", "inside"] f fd) (T : Txt K mg ad) : FnOk P w K mg base CX0 1 f fd ["word", "inside"] (sp_written K) := by
  refine D.F.ok sc_written (fun vs H Q E h => ?_) (fun cdv A outer s H vs Q E hr h => ?_)
  · obtain ⟨w, l, zs, rfl, _⟩ := h
    rfl
  · obtain ⟨w, l, zs, rfl, hl, w10, hz, k⟩ := h
    refine ⟨_, (@pss_one _ _ _ (ps_ret (pe_op op_add_str (pe_op op_add_str (pe_op op_add_str (pv 0) pe_str) (pe_bm PySem.F.plainAttrs_str PySem.F.slot_str_join PySem.F.type_str_join mt_join pe_str (pa_cons (pv 1) pa_nil))) pe_str))), ?_⟩
    have jl := StrLaws.join_length_le "," zs
    rw [show ("," : Str).length = 1 by decide +kernel] at jl
    and_intros
    refine ⟨?_, rfl, zs, .inl hl, by decide +kernel, by omega, ?_, ?_, k⟩
    all_goals rw [sizeLine_eq]
    · rw [show ("(" : Str).length = 1 by decide +kernel]
      omega
    · rw [Str.length_append, show ("(" : Str).length = 1 by decide +kernel]
      omega
    · rw [Str.length_append, Str.length_append, show ("(" : Str).length = 1 by decide +kernel, show (")" : Str).length = 1 by decide +kernel]
      omega
theorem ok_Has_init {f : Addr} {fd : FuncData} (F : Fun K "__init__" "Has.__init__" s_Has_init f fd) (T : Txt K mg ad) : FnOk P w K mg base CX0 1 f fd ["self", "mark"] (sp_Has_init ad) := by
  refine F.ok sc_Has_init (fun vs H Q E h => ?_) (fun cdv A outer s H vs Q E hr h => ?_)
  · obtain ⟨p, dx, m, rfl, _⟩ := h
    rfl
  · obtain ⟨p, dx, m, rfl, h, k⟩ := h
    refine ⟨_, (@pss_one _ _ _ (ps_fld (pv 0) (pv 1) rfl)), ?_⟩
    and_intros
    exact ⟨ad.Has, dx, [], h, T.cl_Has, T.na_Has_mark, by decide, k⟩
theorem ok_Has_shown {f : Addr} {fd : FuncData} (F : Fun K "shown" "Has.shown" s_Has_shown f fd) (T : Txt K mg ad) {f_written : Addr} {fd_written : FuncData} (G_written : FnOk P w K mg base CX0 1 f_written fd_written ["word", "inside"] (sp_written K)) (D_written : Def K mg "written" s_written ["word", "inside"] f_written fd_written) : FnOk P w K mg base CX0 2 f fd ["self"] (sp_Has_shown ad) := by
  refine F.ok sc_Has_shown (fun vs H Q E h => ?_) (fun cdv A outer s H vs Q E hr h => ?_)
  · obtain ⟨p, tm, rfl, _⟩ := h
    rfl
  · obtain ⟨p, tm, rfl, hc, hd, h, ok, sz, k⟩ := h
    obtain ⟨m, rfl⟩ := of0 hc
    unfold FtAt at h
    obtain ⟨a', dx, e, h⟩ := h
    cases e
    refine ⟨_, (@pss_one _ _ _ (ps_ret (pe_call G_written (hr.mono (by decide)) rfl D_written.mg D_written.F.kp D_written.b .nil pass0 (pa_cons pe_str (pa_cons (pe_lst (pa_cons (pe_fld (pv 0) rfl) pa_nil)) pa_nil))))), ?_⟩
    and_intros
    have mo : markS m = true := by unfold okT at ok; exact ok
    have z1 := (mark_all mo).2.1
    refine ⟨ad.Has, dx, _, h, T.cl_Has, T.na_Has_mark, _, rfl, by decide, fun l hl => ?_⟩
    have k' := k _ (Same.put (o := .lst [.str m]) hl)
    unfold textT at k'
    refine ⟨"has", l, [m], rfl, SqL.of upd_same, by decide +kernel, ?_, k'⟩
    simp only [List.map_cons, List.map_nil, List.sum_cons, List.sum_nil, List.length_cons, List.length_nil]
    omega
theorem ok_Many_init {f : Addr} {fd : FuncData} (F : Fun K "__init__" "Many.__init__" s_Many_init f fd) (T : Txt K mg ad) : FnOk P w K mg base CX0 1 f fd ["self", "number", "mark"] (sp_Many_init ad) := by
  refine F.ok sc_Many_init (fun vs H Q E h => ?_) (fun cdv A outer s H vs Q E hr h => ?_)
  · obtain ⟨p, dx, i, m, rfl, _⟩ := h
    rfl
  · obtain ⟨p, dx, i, m, rfl, h, k⟩ := h
    refine ⟨_, (@pss_cons _ _ _ _ _ (ps_fld (pv 0) (pv 1) rfl)
      (@pss_one _ _ _ (ps_fld (pv 0) (pv 2) rfl))), ?_⟩
    and_intros
    refine ⟨ad.Many, dx, [], h, T.cl_Many, T.na_Many_number, by decide, ad.Many, dx, _, upd_same, T.cl_Many, T.na_Many_mark, show 1 < 1000 by decide, ?_⟩
    rw [upd_upd, show putF (Str.ofString "mark") (V.str m) (putF (Str.ofString "number") (V.int i) []) = [(Str.ofString "number", V.int i), (Str.ofString "mark", V.str m)] from putF2 (by decide +kernel)]
    exact k
theorem ok_Many_shown {f : Addr} {fd : FuncData} (F : Fun K "shown" "Many.shown" s_Many_shown f fd) (T : Txt K mg ad) {f_written : Addr} {fd_written : FuncData} (G_written : FnOk P w K mg base CX0 1 f_written fd_written ["word", "inside"] (sp_written K)) (D_written : Def K mg "written" s_written ["word", "inside"] f_written fd_written) : FnOk P w K mg base CX0 2 f fd ["self"] (sp_Many_shown ad) := by
  refine F.ok sc_Many_shown (fun vs H Q E h => ?_) (fun cdv A outer s H vs Q E hr h => ?_)
  · obtain ⟨p, tm, rfl, _⟩ := h
    rfl
  · obtain ⟨p, tm, rfl, hc, hd, h, ok, sz, k⟩ := h
    obtain ⟨i, m, rfl⟩ := of1 hc
    unfold FtAt at h
    obtain ⟨a', dx, e, h⟩ := h
    cases e
    refine ⟨_, (@pss_one _ _ _ (ps_ret (pe_call G_written (hr.mono (by decide)) rfl D_written.mg D_written.F.kp D_written.b .nil pass0 (pa_cons pe_str (pa_cons (pe_lst (pa_cons (pe_callTy call_str_int rfl T.str PyProof.Rows.boot_str (pa_cons (pe_fld (pv 0) rfl) pa_nil)) (pa_cons (pe_fld (pv 0) rfl) pa_nil))) pa_nil))))), ?_⟩
    and_intros
    unfold okT at ok
    have z1 := (mark_all ok.2).2.1
    have z2 := PyProof.Rows.int_text_len_1921 ok.1
    refine ⟨ad.Many, dx, _, h, T.cl_Many, T.na_Many_number, .int i, by rw [List.lookup_cons, beq_self_eq_true], i, rfl, ok.1, ad.Many, dx, _, h, T.cl_Many, T.na_Many_mark, .str m, lk2 (by decide +kernel), by decide, fun l hl => ?_⟩
    have k' := k _ (Same.put (o := .lst [.str (Str.ofString (toString i)), .str m]) hl)
    unfold textT at k'
    refine ⟨"many", l, [Str.ofString (toString i), m], rfl, SqL.of upd_same, by decide +kernel, ?_, k'⟩
    simp only [List.map_cons, List.map_nil, List.sum_cons, List.sum_nil, List.length_cons, List.length_nil]
    omega
theorem ok_Pair_init {f : Addr} {fd : FuncData} (F : Fun K "__init__" "Pair.__init__" s_Pair_init f fd) (T : Txt K mg ad) : FnOk P w K mg base CX0 1 f fd ["self", "one", "other"] (sp_Pair_init ad) := by
  refine F.ok sc_Pair_init (fun vs H Q E h => ?_) (fun cdv A outer s H vs Q E hr h => ?_)
  · obtain ⟨p, dx, w, a, b, rfl, _⟩ := h
    rfl
  · obtain ⟨p, dx, w, a, b, rfl, h, k⟩ := h
    have cl : Cls K (clsP ad w) := by
      unfold clsP
      split
      · exact T.cl_Before
      · split
        · exact T.cl_Under
        · exact T.cl_Beside
    have n1 : NoAttr K (clsP ad w) "one" := by
      unfold clsP
      split
      · exact T.na_Before_one
      · split
        · exact T.na_Under_one
        · exact T.na_Beside_one
    have n2 : NoAttr K (clsP ad w) "other" := by
      unfold clsP
      split
      · exact T.na_Before_other
      · split
        · exact T.na_Under_other
        · exact T.na_Beside_other
    refine ⟨_, (@pss_cons _ _ _ _ _ (ps_fld (pv 0) (pv 1) rfl)
      (@pss_one _ _ _ (ps_fld (pv 0) (pv 2) rfl))), ?_⟩
    and_intros
    refine ⟨clsP ad w, dx, [], h, cl, n1, by decide, clsP ad w, dx, _, upd_same, cl, n2, show 1 < 1000 by decide, ?_⟩
    rw [upd_upd, show putF (Str.ofString "other") (V.str b) (putF (Str.ofString "one") (V.str a) []) = [(Str.ofString "one", V.str a), (Str.ofString "other", V.str b)] from putF2 (by decide +kernel)]
    exact k
theorem ok_Before_shown {f : Addr} {fd : FuncData} (F : Fun K "shown" "Before.shown" s_Before_shown f fd) (T : Txt K mg ad) {f_written : Addr} {fd_written : FuncData} (G_written : FnOk P w K mg base CX0 1 f_written fd_written ["word", "inside"] (sp_written K)) (D_written : Def K mg "written" s_written ["word", "inside"] f_written fd_written) : FnOk P w K mg base CX0 2 f fd ["self"] (sp_Before_shown ad) := by
  refine F.ok sc_Before_shown (fun vs H Q E h => ?_) (fun cdv A outer s H vs Q E hr h => ?_)
  · obtain ⟨p, tm, rfl, _⟩ := h
    rfl
  · obtain ⟨p, tm, rfl, hc, hd, h, ok, sz, k⟩ := h
    obtain ⟨a, b, rfl⟩ := of2 hc
    unfold FtAt at h
    obtain ⟨a', dx, e, h⟩ := h
    cases e
    rw [show clsP ad "before" = ad.Before from if_pos rfl] at h
    refine ⟨_, (@pss_one _ _ _ (ps_ret (pe_call G_written (hr.mono (by decide)) rfl D_written.mg D_written.F.kp D_written.b .nil pass0 (pa_cons pe_str (pa_cons (pe_lst (pa_cons (pe_fld (pv 0) rfl) (pa_cons (pe_fld (pv 0) rfl) pa_nil))) pa_nil))))), ?_⟩
    and_intros
    unfold okT at ok
    have z1 := (mark_all ok.2.1).2.1
    have z2 := (mark_all ok.2.2).2.1
    refine ⟨ad.Before, dx, _, h, T.cl_Before, T.na_Before_one, .str a, by rw [List.lookup_cons, beq_self_eq_true], ad.Before, dx, _, h, T.cl_Before, T.na_Before_other, .str b, lk2 (by decide +kernel), by decide, fun l hl => ?_⟩
    have k' := k _ (Same.put (o := .lst [.str a, .str b]) hl)
    unfold textT at k'
    refine ⟨"before", l, [a, b], rfl, SqL.of upd_same, by decide +kernel, ?_, k'⟩
    simp only [List.map_cons, List.map_nil, List.sum_cons, List.sum_nil, List.length_cons, List.length_nil]
    omega
theorem ok_Under_shown {f : Addr} {fd : FuncData} (F : Fun K "shown" "Under.shown" s_Under_shown f fd) (T : Txt K mg ad) {f_written : Addr} {fd_written : FuncData} (G_written : FnOk P w K mg base CX0 1 f_written fd_written ["word", "inside"] (sp_written K)) (D_written : Def K mg "written" s_written ["word", "inside"] f_written fd_written) : FnOk P w K mg base CX0 2 f fd ["self"] (sp_Under_shown ad) := by
  refine F.ok sc_Under_shown (fun vs H Q E h => ?_) (fun cdv A outer s H vs Q E hr h => ?_)
  · obtain ⟨p, tm, rfl, _⟩ := h
    rfl
  · obtain ⟨p, tm, rfl, hc, hd, h, ok, sz, k⟩ := h
    obtain ⟨a, b, rfl⟩ := of3 hc
    unfold FtAt at h
    obtain ⟨a', dx, e, h⟩ := h
    cases e
    rw [show clsP ad "under" = ad.Under from (if_neg (by decide +kernel)).trans (if_pos rfl)] at h
    refine ⟨_, (@pss_one _ _ _ (ps_ret (pe_call G_written (hr.mono (by decide)) rfl D_written.mg D_written.F.kp D_written.b .nil pass0 (pa_cons pe_str (pa_cons (pe_lst (pa_cons (pe_fld (pv 0) rfl) (pa_cons (pe_fld (pv 0) rfl) pa_nil))) pa_nil))))), ?_⟩
    and_intros
    unfold okT at ok
    have z1 := (mark_all ok.2.1).2.1
    have z2 := (mark_all ok.2.2).2.1
    refine ⟨ad.Under, dx, _, h, T.cl_Under, T.na_Under_one, .str a, by rw [List.lookup_cons, beq_self_eq_true], ad.Under, dx, _, h, T.cl_Under, T.na_Under_other, .str b, lk2 (by decide +kernel), by decide, fun l hl => ?_⟩
    have k' := k _ (Same.put (o := .lst [.str a, .str b]) hl)
    unfold textT at k'
    refine ⟨"under", l, [a, b], rfl, SqL.of upd_same, by decide +kernel, ?_, k'⟩
    simp only [List.map_cons, List.map_nil, List.sum_cons, List.sum_nil, List.length_cons, List.length_nil]
    omega
theorem ok_Beside_shown {f : Addr} {fd : FuncData} (F : Fun K "shown" "Beside.shown" s_Beside_shown f fd) (T : Txt K mg ad) {f_written : Addr} {fd_written : FuncData} (G_written : FnOk P w K mg base CX0 1 f_written fd_written ["word", "inside"] (sp_written K)) (D_written : Def K mg "written" s_written ["word", "inside"] f_written fd_written) : FnOk P w K mg base CX0 2 f fd ["self"] (sp_Beside_shown ad) := by
  refine F.ok sc_Beside_shown (fun vs H Q E h => ?_) (fun cdv A outer s H vs Q E hr h => ?_)
  · obtain ⟨p, tm, rfl, _⟩ := h
    rfl
  · obtain ⟨p, tm, rfl, hc, hd, h, ok, sz, k⟩ := h
    obtain ⟨a, b, rfl⟩ := of4 hc ok
    unfold FtAt at h
    obtain ⟨a', dx, e, h⟩ := h
    cases e
    rw [show clsP ad "beside" = ad.Beside from (if_neg (by decide +kernel)).trans (if_neg (by decide +kernel))] at h
    refine ⟨_, (@pss_one _ _ _ (ps_ret (pe_call G_written (hr.mono (by decide)) rfl D_written.mg D_written.F.kp D_written.b .nil pass0 (pa_cons pe_str (pa_cons (pe_lst (pa_cons (pe_fld (pv 0) rfl) (pa_cons (pe_fld (pv 0) rfl) pa_nil))) pa_nil))))), ?_⟩
    and_intros
    unfold okT at ok
    have z1 := (mark_all ok.2.1).2.1
    have z2 := (mark_all ok.2.2).2.1
    refine ⟨ad.Beside, dx, _, h, T.cl_Beside, T.na_Beside_one, .str a, by rw [List.lookup_cons, beq_self_eq_true], ad.Beside, dx, _, h, T.cl_Beside, T.na_Beside_other, .str b, lk2 (by decide +kernel), by decide, fun l hl => ?_⟩
    have k' := k _ (Same.put (o := .lst [.str a, .str b]) hl)
    unfold textT at k'
    refine ⟨"beside", l, [a, b], rfl, SqL.of upd_same, by decide +kernel, ?_, k'⟩
    simp only [List.map_cons, List.map_nil, List.sum_cons, List.sum_nil, List.length_cons, List.length_nil]
    omega
theorem ok_Joint_init {f : Addr} {fd : FuncData} (F : Fun K "__init__" "Joint.__init__" s_Joint_init f fd) (T : Txt K mg ad) : FnOk P w K mg base CX0 1 f fd ["self", "parts"] (sp_Joint_init K ad) := by
  refine F.ok sc_Joint_init (fun vs H Q E h => ?_) (fun cdv A outer s H vs Q E hr h => ?_)
  · obtain ⟨p, dx, l, b, xs, rfl, _⟩ := h
    rfl
  · obtain ⟨p, dx, l, b, xs, rfl, h, hl, k⟩ := h
    have cl : Cls K (clsJ ad b) := by
      cases b
      · exact T.cl_Any
      · exact T.cl_All
    have n1 : NoAttr K (clsJ ad b) "parts" := by
      cases b
      · exact T.na_Any_parts
      · exact T.na_All_parts
    refine ⟨_, (@pss_one _ _ _ (ps_fld (pv 0) (pe_callTy call_tupL rfl T.tuple PyProof.Rows.boot_tuple (pa_cons (pv 1) pa_nil)) rfl)), ?_⟩
    and_intros
    refine ⟨xs, hl, fun t ht => ⟨clsJ ad b, dx, [], ?_, cl, n1, by decide, k t ht⟩⟩
    rw [upd_ne (ne_of_none h ht)]
    exact h
theorem ok_All_shown {f : Addr} {fd : FuncData} {n : Nat} (F : Fun K "shown" "All.shown" s_All_shown f fd) (T : Txt K mg ad) {f_written : Addr} {fd_written : FuncData} (G_written : FnOk P w K mg base CX0 1 f_written fd_written ["word", "inside"] (sp_written K)) {f_Has_shown : Addr} {fd_Has_shown : FuncData} (G_Has_shown : FnOk P w K mg base CX0 2 f_Has_shown fd_Has_shown ["self"] (sp_Has_shown ad)) {f_Many_shown : Addr} {fd_Many_shown : FuncData} (G_Many_shown : FnOk P w K mg base CX0 2 f_Many_shown fd_Many_shown ["self"] (sp_Many_shown ad)) {f_Before_shown : Addr} {fd_Before_shown : FuncData} (G_Before_shown : FnOk P w K mg base CX0 2 f_Before_shown fd_Before_shown ["self"] (sp_Before_shown ad)) {f_Under_shown : Addr} {fd_Under_shown : FuncData} (G_Under_shown : FnOk P w K mg base CX0 2 f_Under_shown fd_Under_shown ["self"] (sp_Under_shown ad)) {f_Beside_shown : Addr} {fd_Beside_shown : FuncData} (G_Beside_shown : FnOk P w K mg base CX0 2 f_Beside_shown fd_Beside_shown ["self"] (sp_Beside_shown ad)) {f_All_shown : Addr} {fd_All_shown : FuncData} (G_All_shown : FnOk P w K mg base CX0 (n + 3) f_All_shown fd_All_shown ["self"] (sp_All_shown ad n)) {f_Any_shown : Addr} {fd_Any_shown : FuncData} (G_Any_shown : FnOk P w K mg base CX0 (n + 3) f_Any_shown fd_Any_shown ["self"] (sp_Any_shown ad n)) {f_Not_shown : Addr} {fd_Not_shown : FuncData} (G_Not_shown : FnOk P w K mg base CX0 (n + 3) f_Not_shown fd_Not_shown ["self"] (sp_Not_shown ad n)) (D_written : Def K mg "written" s_written ["word", "inside"] f_written fd_written) (B_Has_shown : Binds K fd_Has_shown ["self"] []) (B_Many_shown : Binds K fd_Many_shown ["self"] []) (B_Before_shown : Binds K fd_Before_shown ["self"] []) (B_Under_shown : Binds K fd_Under_shown ["self"] []) (B_Beside_shown : Binds K fd_Beside_shown ["self"] []) (B_All_shown : Binds K fd_All_shown ["self"] []) (B_Any_shown : Binds K fd_Any_shown ["self"] []) (B_Not_shown : Binds K fd_Not_shown ["self"] []) (ME_Has_shown : Meth K ad.Has "shown" f_Has_shown) (ME_Many_shown : Meth K ad.Many "shown" f_Many_shown) (ME_Before_shown : Meth K ad.Before "shown" f_Before_shown) (ME_Under_shown : Meth K ad.Under "shown" f_Under_shown) (ME_Beside_shown : Meth K ad.Beside "shown" f_Beside_shown) (ME_All_shown : Meth K ad.All "shown" f_All_shown) (ME_Any_shown : Meth K ad.Any "shown" f_Any_shown) (ME_Not_shown : Meth K ad.Not "shown" f_Not_shown) : FnOk P w K mg base CX0 (n + 1 + 3) f fd ["self"] (sp_All_shown ad (n + 1)) := by
  refine F.ok sc_All_shown (fun vs H Q E h => ?_) (fun cdv A outer s H vs Q E hr h => ?_)
  · obtain ⟨p, tm, rfl, _⟩ := h
    rfl
  · obtain ⟨p, tm, rfl, hc, hd, h, ok, sz, k⟩ := h
    obtain ⟨ps, rfl⟩ := of5 hc
    unfold FtAt at h
    obtain ⟨a', dx, t, xs, e, h, hts, hfs⟩ := h
    cases e
    refine ⟨_, (@pss_one _ _ _ (ps_ret (pe_call G_written (hr.mono (by omega)) rfl D_written.mg D_written.F.kp D_written.b .nil pass0 (pa_cons pe_str (pa_cons (pe_comp (own := ["part"]) (cap := []) (ix := []) rfl (show CompScope ["self"] (defScope s_All_shown) _ ["part"] [] [] from ⟨rfl, by decide +kernel, by decide +kernel, by decide +kernel, by decide +kernel, by decide +kernel, by decide +kernel, rfl, by decide +kernel⟩) (pi_tup (pe_fld (pv 0) rfl)) (fun C s₀ H₀ ex pn => ⟨pg_name (i := 0) (show (["part"] : List Str).Nodup by decide +kernel) rfl (Or.inl rfl), pifs_nil, (pe_either (pe_either (pe_either (pe_either (pe_either (pe_either (pe_either (pe_meth0 (pv 0) T.cl_Has ME_Has_shown G_Has_shown (hr.mono (by omega)) B_Has_shown .nil pass0) (pe_meth0 (pv 0) T.cl_Many ME_Many_shown G_Many_shown (hr.mono (by omega)) B_Many_shown .nil pass0)) (pe_meth0 (pv 0) T.cl_Before ME_Before_shown G_Before_shown (hr.mono (by omega)) B_Before_shown .nil pass0)) (pe_meth0 (pv 0) T.cl_Under ME_Under_shown G_Under_shown (hr.mono (by omega)) B_Under_shown .nil pass0)) (pe_meth0 (pv 0) T.cl_Beside ME_Beside_shown G_Beside_shown (hr.mono (by omega)) B_Beside_shown .nil pass0)) (pe_meth0 (pv 0) T.cl_All ME_All_shown G_All_shown (hr.mono (by omega)) B_All_shown .nil pass0)) (pe_meth0 (pv 0) T.cl_Any ME_Any_shown G_Any_shown (hr.mono (by omega)) B_Any_shown .nil pass0)) (pe_meth0 (pv 0) T.cl_Not ME_Not_shown G_Not_shown (hr.mono (by omega)) B_Not_shown .nil pass0))⟩)) pa_nil))))), ?_⟩
    have o' : okL ps ∧ ps.length ≤ 10 := by unfold okT at ok; exact ⟨ok.2, ok.1.2⟩
    have z' : szL ps + 1 ≤ 60 := by unfold szT at sz; exact sz
    have d' : dpL ps < n := by unfold dpT at hd; omega
    and_intros
    refine tcomp_tup (K := K) (a := t) (xs := xs) (H1 := H) (fun R r => ⟨_, rfl, p, _, dx, _, _, rfl, h, T.cl_All, T.na_All_parts, rfl, t, rfl, ⟨_, SqT.of hts⟩, r⟩) (fun i ys H' => Same H H' ∧ ys = ((ps.take i).map textT).map V.str) ⟨Same.refl _, rfl⟩ (fun i ys H' _ ⟨s, _⟩ => SqT.of (s _ _ hts)) ?_ ?_
    · rintro i x ys H' R hx ⟨s2, rfl⟩ hR
      simp only [tYes]
      and_intros
      obtain ⟨pm, hpm, fpm⟩ := hfs.get hx
      have hmem := List.mem_of_getElem? hpm
      have := dpL_mem hmem
      have := szL_mem hmem
      refine pick8 (n := n) (m := n) (KK := ShownK) (E := E0) (fpm.same s2) (okL_mem o'.1 hmem) (by omega) (by omega) (by omega) ?_ (by decide +kernel) (by decide +kernel) (by decide +kernel) (by decide +kernel) (by decide +kernel) (by decide +kernel) (by decide) (by decide) (by decide) (by decide) (by decide) AtG.go AtG.go AtG.go AtG.go AtG.go AtG.go AtG.go AtG.go
      intro H3 s3
      refine ⟨small1000 (by rw [List.length_map, List.length_map, List.length_take]; omega), hR _ _ ⟨s2.trans s3, ?_⟩⟩
      rw [List.take_add_one, hpm, List.map_append, List.map_append]
      rfl
    · rintro ys H' ⟨s2, rfl⟩
      rw [hfs.length, List.take_length]
      refine ⟨Nat.le_of_lt (small1000 (by rw [List.length_map, List.length_map]; omega)), fun L hL => ?_⟩
      have k' := k _ (s2.upd (o := .lst ((ps.map textT).map V.str)) hL)
      unfold textT at k'
      rw [textL_map] at k'
      have tl := textL_len ps o'.1
      rw [textL_map] at tl
      exact ⟨wJ true, L, ps.map textT, rfl, SqL.of upd_same, by decide +kernel, by rw [List.length_map]; omega, k'⟩
theorem ok_Any_shown {f : Addr} {fd : FuncData} {n : Nat} (F : Fun K "shown" "Any.shown" s_Any_shown f fd) (T : Txt K mg ad) {f_written : Addr} {fd_written : FuncData} (G_written : FnOk P w K mg base CX0 1 f_written fd_written ["word", "inside"] (sp_written K)) {f_Has_shown : Addr} {fd_Has_shown : FuncData} (G_Has_shown : FnOk P w K mg base CX0 2 f_Has_shown fd_Has_shown ["self"] (sp_Has_shown ad)) {f_Many_shown : Addr} {fd_Many_shown : FuncData} (G_Many_shown : FnOk P w K mg base CX0 2 f_Many_shown fd_Many_shown ["self"] (sp_Many_shown ad)) {f_Before_shown : Addr} {fd_Before_shown : FuncData} (G_Before_shown : FnOk P w K mg base CX0 2 f_Before_shown fd_Before_shown ["self"] (sp_Before_shown ad)) {f_Under_shown : Addr} {fd_Under_shown : FuncData} (G_Under_shown : FnOk P w K mg base CX0 2 f_Under_shown fd_Under_shown ["self"] (sp_Under_shown ad)) {f_Beside_shown : Addr} {fd_Beside_shown : FuncData} (G_Beside_shown : FnOk P w K mg base CX0 2 f_Beside_shown fd_Beside_shown ["self"] (sp_Beside_shown ad)) {f_All_shown : Addr} {fd_All_shown : FuncData} (G_All_shown : FnOk P w K mg base CX0 (n + 3) f_All_shown fd_All_shown ["self"] (sp_All_shown ad n)) {f_Any_shown : Addr} {fd_Any_shown : FuncData} (G_Any_shown : FnOk P w K mg base CX0 (n + 3) f_Any_shown fd_Any_shown ["self"] (sp_Any_shown ad n)) {f_Not_shown : Addr} {fd_Not_shown : FuncData} (G_Not_shown : FnOk P w K mg base CX0 (n + 3) f_Not_shown fd_Not_shown ["self"] (sp_Not_shown ad n)) (D_written : Def K mg "written" s_written ["word", "inside"] f_written fd_written) (B_Has_shown : Binds K fd_Has_shown ["self"] []) (B_Many_shown : Binds K fd_Many_shown ["self"] []) (B_Before_shown : Binds K fd_Before_shown ["self"] []) (B_Under_shown : Binds K fd_Under_shown ["self"] []) (B_Beside_shown : Binds K fd_Beside_shown ["self"] []) (B_All_shown : Binds K fd_All_shown ["self"] []) (B_Any_shown : Binds K fd_Any_shown ["self"] []) (B_Not_shown : Binds K fd_Not_shown ["self"] []) (ME_Has_shown : Meth K ad.Has "shown" f_Has_shown) (ME_Many_shown : Meth K ad.Many "shown" f_Many_shown) (ME_Before_shown : Meth K ad.Before "shown" f_Before_shown) (ME_Under_shown : Meth K ad.Under "shown" f_Under_shown) (ME_Beside_shown : Meth K ad.Beside "shown" f_Beside_shown) (ME_All_shown : Meth K ad.All "shown" f_All_shown) (ME_Any_shown : Meth K ad.Any "shown" f_Any_shown) (ME_Not_shown : Meth K ad.Not "shown" f_Not_shown) : FnOk P w K mg base CX0 (n + 1 + 3) f fd ["self"] (sp_Any_shown ad (n + 1)) := by
  refine F.ok sc_Any_shown (fun vs H Q E h => ?_) (fun cdv A outer s H vs Q E hr h => ?_)
  · obtain ⟨p, tm, rfl, _⟩ := h
    rfl
  · obtain ⟨p, tm, rfl, hc, hd, h, ok, sz, k⟩ := h
    obtain ⟨ps, rfl⟩ := of6 hc
    unfold FtAt at h
    obtain ⟨a', dx, t, xs, e, h, hts, hfs⟩ := h
    cases e
    refine ⟨_, (@pss_one _ _ _ (ps_ret (pe_call G_written (hr.mono (by omega)) rfl D_written.mg D_written.F.kp D_written.b .nil pass0 (pa_cons pe_str (pa_cons (pe_comp (own := ["part"]) (cap := []) (ix := []) rfl (show CompScope ["self"] (defScope s_Any_shown) _ ["part"] [] [] from ⟨rfl, by decide +kernel, by decide +kernel, by decide +kernel, by decide +kernel, by decide +kernel, by decide +kernel, rfl, by decide +kernel⟩) (pi_tup (pe_fld (pv 0) rfl)) (fun C s₀ H₀ ex pn => ⟨pg_name (i := 0) (show (["part"] : List Str).Nodup by decide +kernel) rfl (Or.inl rfl), pifs_nil, (pe_either (pe_either (pe_either (pe_either (pe_either (pe_either (pe_either (pe_meth0 (pv 0) T.cl_Has ME_Has_shown G_Has_shown (hr.mono (by omega)) B_Has_shown .nil pass0) (pe_meth0 (pv 0) T.cl_Many ME_Many_shown G_Many_shown (hr.mono (by omega)) B_Many_shown .nil pass0)) (pe_meth0 (pv 0) T.cl_Before ME_Before_shown G_Before_shown (hr.mono (by omega)) B_Before_shown .nil pass0)) (pe_meth0 (pv 0) T.cl_Under ME_Under_shown G_Under_shown (hr.mono (by omega)) B_Under_shown .nil pass0)) (pe_meth0 (pv 0) T.cl_Beside ME_Beside_shown G_Beside_shown (hr.mono (by omega)) B_Beside_shown .nil pass0)) (pe_meth0 (pv 0) T.cl_All ME_All_shown G_All_shown (hr.mono (by omega)) B_All_shown .nil pass0)) (pe_meth0 (pv 0) T.cl_Any ME_Any_shown G_Any_shown (hr.mono (by omega)) B_Any_shown .nil pass0)) (pe_meth0 (pv 0) T.cl_Not ME_Not_shown G_Not_shown (hr.mono (by omega)) B_Not_shown .nil pass0))⟩)) pa_nil))))), ?_⟩
    have o' : okL ps ∧ ps.length ≤ 10 := by unfold okT at ok; exact ⟨ok.2, ok.1.2⟩
    have z' : szL ps + 1 ≤ 60 := by unfold szT at sz; exact sz
    have d' : dpL ps < n := by unfold dpT at hd; omega
    and_intros
    refine tcomp_tup (K := K) (a := t) (xs := xs) (H1 := H) (fun R r => ⟨_, rfl, p, _, dx, _, _, rfl, h, T.cl_Any, T.na_Any_parts, rfl, t, rfl, ⟨_, SqT.of hts⟩, r⟩) (fun i ys H' => Same H H' ∧ ys = ((ps.take i).map textT).map V.str) ⟨Same.refl _, rfl⟩ (fun i ys H' _ ⟨s, _⟩ => SqT.of (s _ _ hts)) ?_ ?_
    · rintro i x ys H' R hx ⟨s2, rfl⟩ hR
      simp only [tYes]
      and_intros
      obtain ⟨pm, hpm, fpm⟩ := hfs.get hx
      have hmem := List.mem_of_getElem? hpm
      have := dpL_mem hmem
      have := szL_mem hmem
      refine pick8 (n := n) (m := n) (KK := ShownK) (E := E0) (fpm.same s2) (okL_mem o'.1 hmem) (by omega) (by omega) (by omega) ?_ (by decide +kernel) (by decide +kernel) (by decide +kernel) (by decide +kernel) (by decide +kernel) (by decide +kernel) (by decide) (by decide) (by decide) (by decide) (by decide) AtG.go AtG.go AtG.go AtG.go AtG.go AtG.go AtG.go AtG.go
      intro H3 s3
      refine ⟨small1000 (by rw [List.length_map, List.length_map, List.length_take]; omega), hR _ _ ⟨s2.trans s3, ?_⟩⟩
      rw [List.take_add_one, hpm, List.map_append, List.map_append]
      rfl
    · rintro ys H' ⟨s2, rfl⟩
      rw [hfs.length, List.take_length]
      refine ⟨Nat.le_of_lt (small1000 (by rw [List.length_map, List.length_map]; omega)), fun L hL => ?_⟩
      have k' := k _ (s2.upd (o := .lst ((ps.map textT).map V.str)) hL)
      unfold textT at k'
      rw [textL_map] at k'
      have tl := textL_len ps o'.1
      rw [textL_map] at tl
      exact ⟨wJ false, L, ps.map textT, rfl, SqL.of upd_same, by decide +kernel, by rw [List.length_map]; omega, k'⟩
theorem ok_Not_shown {f : Addr} {fd : FuncData} {n : Nat} (F : Fun K "shown" "Not.shown" s_Not_shown f fd) (T : Txt K mg ad) {f_written : Addr} {fd_written : FuncData} (G_written : FnOk P w K mg base CX0 1 f_written fd_written ["word", "inside"] (sp_written K)) {f_Has_shown : Addr} {fd_Has_shown : FuncData} (G_Has_shown : FnOk P w K mg base CX0 2 f_Has_shown fd_Has_shown ["self"] (sp_Has_shown ad)) {f_Many_shown : Addr} {fd_Many_shown : FuncData} (G_Many_shown : FnOk P w K mg base CX0 2 f_Many_shown fd_Many_shown ["self"] (sp_Many_shown ad)) {f_Before_shown : Addr} {fd_Before_shown : FuncData} (G_Before_shown : FnOk P w K mg base CX0 2 f_Before_shown fd_Before_shown ["self"] (sp_Before_shown ad)) {f_Under_shown : Addr} {fd_Under_shown : FuncData} (G_Under_shown : FnOk P w K mg base CX0 2 f_Under_shown fd_Under_shown ["self"] (sp_Under_shown ad)) {f_Beside_shown : Addr} {fd_Beside_shown : FuncData} (G_Beside_shown : FnOk P w K mg base CX0 2 f_Beside_shown fd_Beside_shown ["self"] (sp_Beside_shown ad)) {f_All_shown : Addr} {fd_All_shown : FuncData} (G_All_shown : FnOk P w K mg base CX0 (n + 3) f_All_shown fd_All_shown ["self"] (sp_All_shown ad n)) {f_Any_shown : Addr} {fd_Any_shown : FuncData} (G_Any_shown : FnOk P w K mg base CX0 (n + 3) f_Any_shown fd_Any_shown ["self"] (sp_Any_shown ad n)) {f_Not_shown : Addr} {fd_Not_shown : FuncData} (G_Not_shown : FnOk P w K mg base CX0 (n + 3) f_Not_shown fd_Not_shown ["self"] (sp_Not_shown ad n)) (D_written : Def K mg "written" s_written ["word", "inside"] f_written fd_written) (B_Has_shown : Binds K fd_Has_shown ["self"] []) (B_Many_shown : Binds K fd_Many_shown ["self"] []) (B_Before_shown : Binds K fd_Before_shown ["self"] []) (B_Under_shown : Binds K fd_Under_shown ["self"] []) (B_Beside_shown : Binds K fd_Beside_shown ["self"] []) (B_All_shown : Binds K fd_All_shown ["self"] []) (B_Any_shown : Binds K fd_Any_shown ["self"] []) (B_Not_shown : Binds K fd_Not_shown ["self"] []) (ME_Has_shown : Meth K ad.Has "shown" f_Has_shown) (ME_Many_shown : Meth K ad.Many "shown" f_Many_shown) (ME_Before_shown : Meth K ad.Before "shown" f_Before_shown) (ME_Under_shown : Meth K ad.Under "shown" f_Under_shown) (ME_Beside_shown : Meth K ad.Beside "shown" f_Beside_shown) (ME_All_shown : Meth K ad.All "shown" f_All_shown) (ME_Any_shown : Meth K ad.Any "shown" f_Any_shown) (ME_Not_shown : Meth K ad.Not "shown" f_Not_shown) : FnOk P w K mg base CX0 (n + 1 + 3) f fd ["self"] (sp_Not_shown ad (n + 1)) := by
  refine F.ok sc_Not_shown (fun vs H Q E h => ?_) (fun cdv A outer s H vs Q E hr h => ?_)
  · obtain ⟨p, tm, rfl, _⟩ := h
    rfl
  · obtain ⟨p, tm, rfl, hc, hd, h, ok, sz, k⟩ := h
    obtain ⟨tm, rfl⟩ := of7 hc
    unfold FtAt at h
    obtain ⟨a', dx, x, e, h, hf⟩ := h
    cases e
    refine ⟨_, (@pss_one _ _ _ (ps_ret (pe_call G_written (hr.mono (by omega)) rfl D_written.mg D_written.F.kp D_written.b .nil pass0 (pa_cons pe_str (pa_cons (pe_lst (pa_cons (pe_either (pe_either (pe_either (pe_either (pe_either (pe_either (pe_either (pe_meth0 (pe_fld (pv 0) rfl) T.cl_Has ME_Has_shown G_Has_shown (hr.mono (by omega)) B_Has_shown .nil pass0) (pe_meth0 (pe_fld (pv 0) rfl) T.cl_Many ME_Many_shown G_Many_shown (hr.mono (by omega)) B_Many_shown .nil pass0)) (pe_meth0 (pe_fld (pv 0) rfl) T.cl_Before ME_Before_shown G_Before_shown (hr.mono (by omega)) B_Before_shown .nil pass0)) (pe_meth0 (pe_fld (pv 0) rfl) T.cl_Under ME_Under_shown G_Under_shown (hr.mono (by omega)) B_Under_shown .nil pass0)) (pe_meth0 (pe_fld (pv 0) rfl) T.cl_Beside ME_Beside_shown G_Beside_shown (hr.mono (by omega)) B_Beside_shown .nil pass0)) (pe_meth0 (pe_fld (pv 0) rfl) T.cl_All ME_All_shown G_All_shown (hr.mono (by omega)) B_All_shown .nil pass0)) (pe_meth0 (pe_fld (pv 0) rfl) T.cl_Any ME_Any_shown G_Any_shown (hr.mono (by omega)) B_Any_shown .nil pass0)) (pe_meth0 (pe_fld (pv 0) rfl) T.cl_Not ME_Not_shown G_Not_shown (hr.mono (by omega)) B_Not_shown .nil pass0)) pa_nil)) pa_nil))))), ?_⟩
    have o' : okT tm := by unfold okT at ok; exact ok
    have z' : szT tm ≤ 60 := by unfold szT at sz; omega
    have d' : dpT tm < n := by unfold dpT at hd; omega
    have tl := text_len tm o'
    and_intros
    refine pick8 (n := n) (m := n) (KK := ShownK) (E := E0) hf o' z' d' d' ?_ (by decide +kernel) (by decide +kernel) (by decide +kernel) (by decide +kernel) (by decide +kernel) (by decide +kernel) (by decide) (by decide) (by decide) (by decide) (by decide) (fun ⟨a, x, y, e, h1, h2, s⟩ => ⟨_, _, _, h, T.cl_Not, T.na_Not_part, _, rfl, a, e, x, y, h1, h2, s⟩) (fun ⟨a, x, y, e, h1, h2, s⟩ => ⟨_, _, _, h, T.cl_Not, T.na_Not_part, _, rfl, a, e, x, y, h1, h2, s⟩) (fun ⟨a, x, y, e, h1, h2, s⟩ => ⟨_, _, _, h, T.cl_Not, T.na_Not_part, _, rfl, a, e, x, y, h1, h2, s⟩) (fun ⟨a, x, y, e, h1, h2, s⟩ => ⟨_, _, _, h, T.cl_Not, T.na_Not_part, _, rfl, a, e, x, y, h1, h2, s⟩) (fun ⟨a, x, y, e, h1, h2, s⟩ => ⟨_, _, _, h, T.cl_Not, T.na_Not_part, _, rfl, a, e, x, y, h1, h2, s⟩) (fun ⟨a, x, y, e, h1, h2, s⟩ => ⟨_, _, _, h, T.cl_Not, T.na_Not_part, _, rfl, a, e, x, y, h1, h2, s⟩) (fun ⟨a, x, y, e, h1, h2, s⟩ => ⟨_, _, _, h, T.cl_Not, T.na_Not_part, _, rfl, a, e, x, y, h1, h2, s⟩) (fun ⟨a, x, y, e, h1, h2, s⟩ => ⟨_, _, _, h, T.cl_Not, T.na_Not_part, _, rfl, a, e, x, y, h1, h2, s⟩)
    intro H1 s1
    refine ⟨by decide, fun l hl => ?_⟩
    have k' := k _ (s1.upd (o := .lst [.str (textT tm)]) hl)
    conv at k' => arg 1; unfold textT
    refine ⟨"not", l, [textT tm], rfl, SqL.of upd_same, by decide +kernel, ?_, k'⟩
    simp only [List.map_cons, List.map_nil, List.sum_cons, List.sum_nil, List.length_cons, List.length_nil]
    omega
theorem ok_Not_init {f : Addr} {fd : FuncData} (F : Fun K "__init__" "Not.__init__" s_Not_init f fd) (T : Txt K mg ad) : FnOk P w K mg base CX0 1 f fd ["self", "part"] (sp_Not_init ad) := by
  refine F.ok sc_Not_init (fun vs H Q E h => ?_) (fun cdv A outer s H vs Q E hr h => ?_)
  · obtain ⟨p, dx, x, rfl, _⟩ := h
    rfl
  · obtain ⟨p, dx, x, rfl, h, k⟩ := h
    refine ⟨_, (@pss_one _ _ _ (ps_fld (pv 0) (pv 1) rfl)), ?_⟩
    and_intros
    exact ⟨ad.Not, dx, [], h, T.cl_Not, T.na_Not_part, by decide, k⟩
theorem ok_is_mark {f : Addr} {fd : FuncData} (D : Def K mg "is_mark" s_is_mark ["thing"] f fd) (T : Txt K mg ad) : FnOk P w K mg base CX0 1 f fd ["thing"] sp_is_mark := by
  refine D.F.ok sc_is_mark (fun vs H Q E h => ?_) (fun cdv A outer s H vs Q E hr h => ?_)
  · obtain ⟨v, rfl, _⟩ := h
    rfl
  · obtain ⟨v, rfl, t, k⟩ := h
    obtain ⟨tk_LETTERS, h_LETTERS⟩ := T.g_LETTERS
    obtain ⟨tk_LONGEST_MARK, h_LONGEST_MARK⟩ := T.g_LONGEST_MARK
    obtain ⟨y, ty, e1, _, _⟩ := t.ty (K := K)
    refine ⟨_, (@pss_cons _ _ _ _ _ (ps_if (pt_not (pt_val (pe_callB call_isiT rfl T.isinstance PyProof.Rows.boot_isinstance (pa_cons (pv 0) (pa_cons (pe_ty rfl T.str PyProof.Rows.boot_str) pa_nil)))))
      (@pss_one _ _ _ (ps_ret pe_bl))
      pss_nil)
      (@pss_cons _ _ _ _ _ (ps_if (pt_not (pt_chain op_le op_le pe_int (pe_callB call_len_str rfl T.len PySem.boot_len (pa_cons (pv 0) pa_nil)) (pe_glob (v := .int 8) rfl h_LONGEST_MARK ⟨_, rfl⟩)))
      (@pss_one _ _ _ (ps_ret pe_bl))
      pss_nil)
      (@pss_one _ _ _ (ps_ret (pe_callB (call_all rfl) rfl T.all (by decide +kernel) (pa_cons (pe_comp (own := ["sign"]) (cap := []) (ix := []) rfl (show CompScope ["thing"] (defScope s_is_mark) _ ["sign"] [] [] from ⟨rfl, by decide +kernel, by decide +kernel, by decide +kernel, by decide +kernel, by decide +kernel, by decide +kernel, rfl, by decide +kernel⟩) (pi_str (pv 0)) (fun C s₀ H₀ ex pn => ⟨pg_name (i := 0) (show (["sign"] : List Str).Nodup by decide +kernel) rfl (Or.inl rfl), pifs_nil, (pe_cmpR op_in_str (pv 0) (pe_glob (v := .str LET) rfl h_LETTERS ⟨_, rfl⟩) rfl)⟩)) pa_nil)))))), ?_⟩
    refine ⟨_, rfl, v, "str", y, _, rfl, ty, e1, _, rfl, ?_⟩
    cases t with
    | non => exact iteT (k H (Same.refl H))
    | int i => exact iteT (k H (Same.refl H))
    | bl b => exact iteT (k H (Same.refl H))
    | lst h => exact iteT (k H (Same.refl H))
    | tup h => exact iteT (k H (Same.refl H))
    | str x hx =>
      refine iteF ?_
      have hz : x.length ≤ sizeLine := Nat.le_of_lt (small1000 hx)
      refine ⟨_, rfl, x, rfl, hz, _, _, rfl, rfl, _, rfl, ?_⟩
      have km : ∀ H', Same H H' → Q (.bl (markS x)) H' := k
      refine ite2 (fun h1 => ?_) (fun h1 => ?_)
      · have h1 : 1 ≤ x.length := by have := of_decide_eq_true h1; omega
        refine ⟨_, _, rfl, rfl, _, rfl, ?_⟩
        refine ite2 (fun h2 => ?_) (fun h2 => ?_)
        · have h2 : ¬ x.length ≤ 8 := by simp at h2; omega
          have e : markS x = false := by unfold markS; rw [decide_eq_false h2]; simp
          rw [e] at km
          exact km H (Same.refl H)
        · have h2 : x.length ≤ 8 := by simp at h2; omega
          dsimp only [tNext, tRet, tCB, tCons]
          refine tcomp_str (z := x) (fun R r => ⟨_, rfl, x, rfl, r⟩) (fun i ys H' => H' = H ∧ ∃ bs : List Bool, ys = bs.map V.bl ∧ bs.length = i ∧ bs.all id = (x.cps.toList.take i).all letC) ⟨rfl, [], rfl, rfl, by simp⟩ ?_ ?_
          · rintro i c ys H' R hc ⟨rfl, bs, rfl, hb1, hb2⟩ hR
            refine ⟨_, rfl, _, _, rfl, rfl, ?_, hR _ _ ⟨rfl, bs ++ [letC c], by simp [letC], by simp [hb1], ?_⟩⟩
            · rw [List.length_map, hb1]
              have : i < x.cps.size := (Array.getElem?_eq_some_iff.mp hc).1
              have hx' : x.cps.size = x.length := rfl
              omega
            · rw [all_take_succ (by simpa using hc), ← hb2]
              simp
          · rintro ys H' ⟨rfl, bs, rfl, hb1, hb2⟩
            refine ⟨?_, fun Dd hD => ⟨Dd, bs, rfl, SqL.of upd_same, ?_⟩⟩
            · rw [List.length_map, hb1]; exact hz
            · have e : bs.all id = markS x := by
                rw [hb2, List.take_of_length_le (by simp)]
                unfold markS
                rw [decide_eq_true h1, decide_eq_true h2]
                simp
              rw [e]
              exact km _ fun b o q => by rw [upd_ne (ne_of_none q hD)]; exact q
      · have h1 : ¬ 1 ≤ x.length := by
          have q : (x.length : Int) < 1 := by simpa using h1
          omega
        have e : markS x = false := by unfold markS; rw [decide_eq_false h1]; simp
        rw [e] at km
        exact ⟨_, rfl, iteT (km H (Same.refl H))⟩
theorem ok_pair_fault {f : Addr} {fd : FuncData} (D : Def K mg "pair_fault" s_pair_fault ["word", "one", "other"] f fd) (T : Txt K mg ad) {f_Pair_init : Addr} {fd_Pair_init : FuncData} (G_Pair_init : FnOk P w K mg base CX0 1 f_Pair_init fd_Pair_init ["self", "one", "other"] (sp_Pair_init ad)) (B_Pair_init : Binds K fd_Pair_init ["self", "one", "other"] []) (M_Before : Mk K ad.Before f_Pair_init) (M_Under : Mk K ad.Under f_Pair_init) (M_Beside : Mk K ad.Beside f_Pair_init) : FnOk P w K mg base CX0 3 f fd ["word", "one", "other"] (sp_pair_fault ad) := by
  refine D.F.ok sc_pair_fault (fun vs H Q E h => ?_) (fun cdv A outer s H vs Q E hr h => ?_)
  · obtain ⟨w, a, b, rfl, _⟩ := h
    rfl
  · obtain ⟨w, a, b, rfl, hw, k⟩ := h
    refine ⟨_, (@pss_cons _ _ _ _ _ (ps_if (pt_cmpR op_eq (pv 0) pe_str (nomark _))
      (@pss_one _ _ _ (ps_ret (pe_make M_Before G_Pair_init (hr.mono (by decide)) rfl T.c_Before B_Pair_init .nil pass0 (pa_cons (pv 1) (pa_cons (pv 2) pa_nil)))))
      pss_nil)
      (@pss_cons _ _ _ _ _ (ps_if (pt_cmpR op_eq (pv 0) pe_str (nomark _))
      (@pss_one _ _ _ (ps_ret (pe_make M_Under G_Pair_init (hr.mono (by decide)) rfl T.c_Under B_Pair_init .nil pass0 (pa_cons (pv 1) (pa_cons (pv 2) pa_nil)))))
      pss_nil)
      (@pss_one _ _ _ (ps_ret (pe_make M_Beside G_Pair_init (hr.mono (by decide)) rfl T.c_Beside B_Pair_init .nil pass0 (pa_cons (pv 1) (pa_cons (pv 2) pa_nil))))))), ?_⟩
    and_intros
    have go : ∀ z dx, H z = none → H dx = none → dx ≠ z → sp_Pair_init ad [V.ref z, V.str a, V.str b] (upd (upd H dx (HO.own z)) z (HO.ins (clsP ad w) dx [])) (fun v H2 => v = V.non ∧ Q (V.ref z) H2) E0 := fun z dx hz hdx hne => by
      refine ⟨z, dx, w, a, b, rfl, upd_same, rfl, ?_⟩
      rw [upd_upd]
      exact k (.ref z) _ (mkSame hz hdx hne) (by unfold FtAt; exact ⟨z, dx, rfl, upd_same⟩)
    rcases hw with rfl | rfl | rfl
    · rw [if_pos rfl]
      exact go
    · rw [if_neg (by decide +kernel), if_pos rfl]
      rw [show clsP ad "under" = ad.Under from (if_neg (by decide +kernel)).trans (if_pos rfl)] at go
      exact go
    · rw [if_neg (by decide +kernel), if_neg (by decide +kernel)]
      rw [show clsP ad "beside" = ad.Beside from (if_neg (by decide +kernel)).trans (if_neg (by decide +kernel))] at go
      exact go
theorem ok_Reader_init {f : Addr} {fd : FuncData} (F : Fun K "__init__" "Reader.__init__" s_Reader_init f fd) (T : Txt K mg ad) : FnOk P w K mg base CX0 1 f fd ["self", "text"] (sp_Reader_init ad) := by
  refine F.ok sc_Reader_init (fun vs H Q E h => ?_) (fun cdv A outer s H vs Q E hr h => ?_)
  · obtain ⟨p, dx, z, rfl, _⟩ := h
    rfl
  · obtain ⟨p, dx, z, rfl, hp, k⟩ := h
    refine ⟨_, (@pss_cons _ _ _ _ _ (ps_fld (pv 0) (pv 1) rfl)
      (@pss_cons _ _ _ _ _ (ps_fld (pv 0) pe_int rfl)
      (@pss_one _ _ _ (ps_fld (pv 0) pe_int rfl)))), ?_⟩
    and_intros
    refine ⟨ad.Reader, dx, [], hp, T.cl_Reader, T.na_Reader_text, by decide, ad.Reader, dx, _, upd_same, T.cl_Reader, T.na_Reader_at, show 1 < 1000 by decide, ad.Reader, dx, _, upd_same, T.cl_Reader, T.na_Reader_met, ?_, ?_⟩
    · rw [show putF (Str.ofString "at") (V.int 0) (putF (Str.ofString "text") (V.str z) []) = [(Str.ofString "text", V.str z), (Str.ofString "at", V.int 0)] from putF2 (by decide +kernel)]
      exact (show 2 < 1000 by decide)
    · rw [upd_upd, upd_upd, pf_new]
      exact k
theorem ok_Reader_is_at_end {f : Addr} {fd : FuncData} (F : Fun K "is_at_end" "Reader.is_at_end" s_Reader_is_at_end f fd) (T : Txt K mg ad) : FnOk P w K mg base CX0 1 f fd ["self"] (sp_is_at_end ad) := by
  refine F.ok sc_Reader_is_at_end (fun vs H Q E h => ?_) (fun cdv A outer s H vs Q E hr h => ?_)
  · obtain ⟨p, dx, z, l, n, rfl, _⟩ := h
    rfl
  · obtain ⟨p, dx, z, l, n, rfl, ⟨i, hi, hd, ho⟩, hz, k⟩ := h
    refine ⟨_, (@pss_one _ _ _ (ps_ret (pe_cmpR op_eq (pe_fld (pv 0) rfl) (pe_callB call_len_str rfl T.len PySem.boot_len (pa_cons (pe_fld (pv 0) rfl) pa_nil)) (nomark _)))), ?_⟩
    and_intros
    refine ⟨ad.Reader, dx, _, ho, T.cl_Reader, T.na_Reader_at, _, rf_at, ad.Reader, dx, _, ho, T.cl_Reader, T.na_Reader_text, _, rf_text, z, rfl, by rw [sizeLine_eq]; omega, rfl, ?_⟩
    rw [show decide (V.int (i : Int) = V.int (z.length : Int)) = decide (i = z.length) from decide_eq_decide.mpr (by rw [V.int.injEq]; omega)]
    rw [end_is hi hd] at k
    exact k
theorem ok_Reader_is_at {f : Addr} {fd : FuncData} (F : Fun K "is_at" "Reader.is_at" s_Reader_is_at f fd) (T : Txt K mg ad) {f_Reader_is_at_end : Addr} {fd_Reader_is_at_end : FuncData} (G_Reader_is_at_end : FnOk P w K mg base CX0 1 f_Reader_is_at_end fd_Reader_is_at_end ["self"] (sp_is_at_end ad)) (B_Reader_is_at_end : Binds K fd_Reader_is_at_end ["self"] []) (ME_Reader_is_at_end : Meth K ad.Reader "is_at_end" f_Reader_is_at_end) : FnOk P w K mg base CX0 2 f fd ["self", "sign"] (sp_is_at ad) := by
  refine F.ok sc_Reader_is_at (fun vs H Q E h => ?_) (fun cdv A outer s H vs Q E hr h => ?_)
  · obtain ⟨p, dx, z, l, n, s, c, rfl, _⟩ := h
    rfl
  · obtain ⟨p, dx, z, l, n, s, c, rfl, hs, ⟨i, hi, hd, ho⟩, hz, k⟩ := h
    refine ⟨_, (@pss_one _ _ _ (ps_ret (pe_and (pe_not (pe_meth0 (pv 0) T.cl_Reader ME_Reader_is_at_end G_Reader_is_at_end (hr.mono (by decide)) B_Reader_is_at_end .nil pass0)) (pe_one (pe_cmpR op_eq (pe_ix ix_str (pe_fld (pv 0) rfl) (pe_fld (pv 0) rfl) (fun _ _ => rfl)) (pv 1) (nomark _)))))), ?_⟩
    rw [sign_ix hd] at k
    and_intros
    refine ⟨dx, _, ho, lookup_no3 (by decide +kernel) (by decide +kernel) (by decide +kernel), p, dx, z, l, n, rfl, ⟨i, hi, hd, ho⟩, hz, _, rfl, ?_⟩
    rw [end_is hi hd]
    by_cases e : i = z.length
    · rw [if_neg (by rw [decide_eq_true e]; decide)]
      rw [show decide ((chs z)[i]? = some c) = false from decide_eq_false (by rw [List.getElem?_eq_none (by rw [chs_len]; omega)]; nofun)] at k
      exact k
    · rw [if_pos (decide_eq_false e)]
      obtain ⟨c0, e0⟩ : ∃ c0, (chs z)[i]? = some c0 := ⟨_, List.getElem?_eq_getElem (by rw [chs_len]; omega)⟩
      refine ⟨ad.Reader, dx, _, ho, T.cl_Reader, T.na_Reader_text, _, rf_text, ad.Reader, dx, _, ho, T.cl_Reader, T.na_Reader_at, _, rf_at, z, rfl, i, rfl, by rw [sizeLine_eq]; omega, c0, atI_nat e0, ?_⟩
      subst hs
      rw [show decide ((⟨#[c0]⟩ : Str) = ⟨#[c]⟩) = decide ((chs z)[i]? = some c) from decide_eq_decide.mpr ⟨fun h => by rw [e0]; injection h with h; simpa using h, fun h => by rw [e0] at h; rw [Option.some.inj h]⟩]
      exact k
theorem ok_Reader_read_sign {f : Addr} {fd : FuncData} (F : Fun K "read_sign" "Reader.read_sign" s_Reader_read_sign f fd) (T : Txt K mg ad) {f_Reader_is_at : Addr} {fd_Reader_is_at : FuncData} (G_Reader_is_at : FnOk P w K mg base CX0 2 f_Reader_is_at fd_Reader_is_at ["self", "sign"] (sp_is_at ad)) (B_Reader_is_at : Binds K fd_Reader_is_at ["self", "sign"] []) (ME_Reader_is_at : Meth K ad.Reader "is_at" f_Reader_is_at) : FnOk P w K mg base (CX1 P w) 3 f fd ["self", "sign"] (sp_read_sign ad) := by
  refine F.okX sc_Reader_read_sign (fun vs H Q E h => ?_) (fun cdv A outer s H vs Q E hr h => ?_)
  · obtain ⟨p, dx, z, l, n, s, c, rfl, _⟩ := h
    rfl
  · obtain ⟨p, dx, z, l, n, s, c, rfl, hs, ⟨i, hi, hd, ho⟩, hz, k⟩ := h
    refine ⟨_, (@pss_cons _ _ _ _ _ (ps_if (pt_not (pt_val (pe_meth (pv 0) T.cl_Reader ME_Reader_is_at G_Reader_is_at (hr.mono (by decide)) B_Reader_is_at .nil pass0 (pa_cons (pv 1) pa_nil))))
      (@pss_one _ _ _ (ps_raise T.e_NoFault rfl raises1 rfl (pa_cons pe_str pa_nil)))
      pss_nil)
      (@pss_one _ _ _ (ps_fldaug (pv 0) pe_int in_add))), ?_⟩
    and_intros
    refine ⟨dx, _, ho, lookup_no3 (by decide +kernel) (by decide +kernel) (by decide +kernel), p, dx, z, l, n, s, c, rfl, hs, ⟨i, hi, hd, ho⟩, hz, _, rfl, ?_⟩
    cases e : pSign c l with
    | none =>
      rw [if_pos (by rfl)]
      exact ⟨by decide, k.no e H (But.refl _ _)⟩
    | some r =>
      rw [if_neg (show ¬ (some r).isSome = false from nofun)]
      obtain ⟨h1, h2, h3⟩ := sign_drop hd e
      refine ⟨ad.Reader, dx, _, ho, T.cl_Reader, T.na_Reader_at, _, rf_at, i, rfl, dx, _, ho, (show 3 < 1000 by decide), k.yes e _ (But.refl p H).upd ⟨i + 1, h3, h2, ?_⟩⟩
      unfold RdO
      rw [upd_same, pf_at]
      rfl
theorem ok_Reader_read_run {f : Addr} {fd : FuncData} (F : Fun K "read_run" "Reader.read_run" s_Reader_read_run f fd) (T : Txt K mg ad) {f_Reader_is_at_end : Addr} {fd_Reader_is_at_end : FuncData} (G_Reader_is_at_end : FnOk P w K mg base CX0 1 f_Reader_is_at_end fd_Reader_is_at_end ["self"] (sp_is_at_end ad)) (B_Reader_is_at_end : Binds K fd_Reader_is_at_end ["self"] []) (ME_Reader_is_at_end : Meth K ad.Reader "is_at_end" f_Reader_is_at_end) : FnOk P w K mg base CX0 2 f fd ["self", "signs"] (sp_read_run ad) := by
  refine F.ok sc_Reader_read_run (fun vs H Q E h => ?_) (fun cdv A outer s H vs Q E hr h => ?_)
  · obtain ⟨p, dx, z, l, n, S, f, rfl, _⟩ := h
    rfl
  · obtain ⟨p, dx, z, l, n, S, f, rfl, hf, ⟨i, hi, hdl, ho⟩, hz, k0⟩ := h
    have hd : (chs z).drop i = l.takeWhile f ++ l.dropWhile f := by rw [hdl]; exact (List.takeWhile_append_dropWhile).symm
    have hw : ∀ c ∈ l.takeWhile f, c ∈ chs S := fun c hc => (hf c).mp (tw_mem l c hc)
    have hr' : ∀ c t, l.dropWhile f = c :: t → c ∉ chs S := fun c t e h => by
      have := dw_head l e
      rw [(hf c).mpr h] at this
      cases this
    have k : ∀ H', But p H H' → RdO ad H' p dx z (i + (l.takeWhile f).length) n → Q (.str ⟨(l.takeWhile f).toArray⟩) H' := fun H' b o => k0 H' b ⟨_, by have := drop_le hd (by rw [chs_len]; exact hi); rw [chs_len z] at this; exact this, drop_at hd, o⟩
    clear k0 hdl
    generalize l.takeWhile f = w at hd hw k
    generalize l.dropWhile f = r at hd hr'
    refine ⟨_, (@pss_cons _ _ _ _ _ (ps_set (i := 2) sc_Reader_read_run.nd rfl (Or.inl rfl) (pe_fld (pv 0) rfl))
      (@pss_cons _ _ _ _ _ (ps_while PassesOwn.never (PW.pt (pw_and (pt_not (pt_val (pe_meth0 (pv 0) T.cl_Reader ME_Reader_is_at_end G_Reader_is_at_end (hr.mono (by decide)) B_Reader_is_at_end .nil pass0))) (pw_and1 (pt_cmpR op_in_str (pe_ix ix_str (pe_fld (pv 0) rfl) (pe_fld (pv 0) rfl) (fun _ _ => rfl)) (pv 1) rfl))))
      (@pss_one _ _ _ (ps_fldaug (pv 0) pe_int in_add)))
      (@pss_one _ _ _ (ps_ret (pe_slice sl_str (pe_fld (pv 0) rfl) (po_some (pv 2)) (po_some (pe_fld (pv 0) rfl))))))), ?_⟩
    have lz : ∀ j, j ≤ w.length → i + j ≤ z.length := fun j hj => by
      have := drop_le hd (by rw [chs_len]; exact hi)
      rw [chs_len] at this
      omega
    refine tseq_open fun B hB => ?_
    and_intros
    refine ⟨ad.Reader, dx, _, ho, T.cl_Reader, T.na_Reader_at, _, rf_at, ?_⟩
    subst hB
    refine tseq_open fun B hB => ?_
    refine ⟨fun m σ H' => ∃ j, j ≤ w.length ∧ m = w.length - j ∧ But p H H' ∧ RdO ad H' p dx z (i + j) n ∧ StIs σ [some (.ref p), some (.str S), some (.int (i : Int))], ⟨_, 0, Nat.zero_le _, rfl, But.refl _ _, ho, StIs.rfl⟩, ?_⟩
    rintro m σ H' ⟨j, hj, rfl, b1, ho1, rfl⟩
    have lj := lz j hj
    refine test_first (fun b H1 => H1 = H' ∧ b = decide (j < w.length)) (fun G hG => ?_) ?_
    · and_intros
      refine ⟨dx, _, ho1, lookup_no3 (by decide +kernel) (by decide +kernel) (by decide +kernel), p, dx, z, _, n, rfl, ⟨i + j, lj, rfl, ho1⟩, hz, _, rfl, ?_⟩
      rw [end_is lj rfl]
      have ix : (chs z)[i + j]? = (w ++ r)[j]? := by rw [← hd, List.getElem?_drop]
      by_cases e : i + j = z.length
      · rw [if_neg (by rw [decide_eq_true e]; decide)]
        refine hG _ _ ⟨rfl, (decide_eq_false fun h => ?_).symm⟩
        have := lz w.length (Nat.le_refl _)
        omega
      · rw [if_pos (decide_eq_false e)]
        obtain ⟨c0, e0⟩ : ∃ c0, (chs z)[i + j]? = some c0 := ⟨_, List.getElem?_eq_getElem (by rw [chs_len]; omega)⟩
        refine ⟨ad.Reader, dx, _, ho1, T.cl_Reader, T.na_Reader_text, _, rf_text, ad.Reader, dx, _, ho1, T.cl_Reader, T.na_Reader_at, _, rf_at, z, rfl, ((i + j : Nat) : Int), rfl, by rw [sizeLine_eq]; omega, c0, atI_nat e0, ?_⟩
        rw [PySem.StrLaws.found_one]
        rw [ix] at e0
        by_cases hw' : j < w.length
        · rw [List.getElem?_append_left hw'] at e0
          rw [show decide (c0 ∈ S.cps.toList) = true from decide_eq_true (hw c0 (List.mem_of_getElem? e0))]
          exact hG _ _ ⟨rfl, (decide_eq_true hw').symm⟩
        · rw [List.getElem?_append_right (by omega), show j - w.length = 0 by omega] at e0
          obtain ⟨t0, et⟩ : ∃ t0, r = c0 :: t0 := by
            cases r with
            | nil => cases e0
            | cons x y => exact ⟨y, by rw [Option.some.inj e0]⟩
          rw [show decide (c0 ∈ S.cps.toList) = false from decide_eq_false (hr' c0 t0 et)]
          exact hG _ _ ⟨rfl, (decide_eq_false hw').symm⟩
    rintro b H1 ⟨rfl, rfl⟩
    refine ite2 (fun hx => ?_) fun hx => ?_
    · have hx := of_decide_eq_true hx
      refine ⟨fun σ' H2 => But p H H2 ∧ RdO ad H2 p dx z (i + (j + 1)) n ∧ StIs σ' [some (.ref p), some (.str S), some (.int (i : Int))], fun σ' H2 ⟨e1, e2, e3⟩ => ⟨w.length - (j + 1), by omega, j + 1, hx, rfl, e1, e2, e3⟩, ?_⟩
      and_intros
      refine ⟨ad.Reader, dx, _, ho1, T.cl_Reader, T.na_Reader_at, _, rf_at, _, rfl, dx, _, ho1, (show 3 < 1000 by decide), b1.upd, ?_, StIs.rfl⟩
      unfold RdO
      rw [upd_same, pf_at]
      rfl
    · have hx : ¬ j < w.length := fun h => hx (decide_eq_true h)
      obtain rfl : j = w.length := by omega
      subst hB
      and_intros
      refine ⟨ad.Reader, dx, _, ho1, T.cl_Reader, T.na_Reader_text, _, rf_text, ad.Reader, dx, _, ho1, T.cl_Reader, T.na_Reader_at, _, rf_at, _, rfl, z, rfl, by rw [sizeLine_eq]; omega, ?_⟩
      rw [cut_mid hd hi]
      exact k H1 b1 ho1
theorem ok_Reader_read_mark {f : Addr} {fd : FuncData} (F : Fun K "read_mark" "Reader.read_mark" s_Reader_read_mark f fd) (T : Txt K mg ad) {f_Reader_read_run : Addr} {fd_Reader_read_run : FuncData} (G_Reader_read_run : FnOk P w K mg base CX0 2 f_Reader_read_run fd_Reader_read_run ["self", "signs"] (sp_read_run ad)) {f_is_mark : Addr} {fd_is_mark : FuncData} (G_is_mark : FnOk P w K mg base CX0 1 f_is_mark fd_is_mark ["thing"] sp_is_mark) (D_is_mark : Def K mg "is_mark" s_is_mark ["thing"] f_is_mark fd_is_mark) (B_Reader_read_run : Binds K fd_Reader_read_run ["self", "signs"] []) (ME_Reader_read_run : Meth K ad.Reader "read_run" f_Reader_read_run) : FnOk P w K mg base (CX1 P w) 3 f fd ["self"] (sp_read_mark ad) := by
  refine F.okX sc_Reader_read_mark (fun vs H Q E h => ?_) (fun cdv A outer s H vs Q E hr h => ?_)
  · obtain ⟨p, dx, z, l, n, rfl, _⟩ := h
    rfl
  · obtain ⟨p, dx, z, l, n, rfl, ra, hz, k⟩ := h
    obtain ⟨tk_LETTERS, h_LETTERS⟩ := T.g_LETTERS
    obtain ⟨fs, hp, lk⟩ := ra.fields
    have lt := tw_mem (p := lets) l
    have ll : (l.takeWhile lets).length ≤ 1000 := by
      obtain ⟨i, hi, hd, ho⟩ := id ra
      have e := congrArg List.length hd
      rw [List.length_drop, chs_len] at e
      have := (List.takeWhile_sublist lets (l := l)).length_le
      omega
    refine ⟨_, (@pss_cons _ _ _ _ _ (ps_set (i := 1) sc_Reader_read_mark.nd rfl (Or.inl rfl) (pe_meth (pv 0) T.cl_Reader ME_Reader_read_run G_Reader_read_run (hr.mono (by decide)) B_Reader_read_run .nil pass0 (pa_cons (pe_glob (v := .str LET) rfl h_LETTERS ⟨_, rfl⟩) pa_nil)))
      (@pss_cons _ _ _ _ _ (ps_if (pt_not (pt_val (pe_call G_is_mark (hr.mono (by decide)) rfl D_is_mark.mg D_is_mark.F.kp D_is_mark.b .nil pass0 (pa_cons (pv 1) pa_nil))))
      (@pss_one _ _ _ (ps_raise T.e_NoFault rfl raises1 rfl (pa_cons pe_str pa_nil)))
      pss_nil)
      (@pss_one _ _ _ (ps_ret (pv 1))))), ?_⟩
    and_intros
    refine ⟨dx, fs, hp, lk _ (by decide +kernel) (by decide +kernel) (by decide +kernel), p, dx, z, l, n, LET, lets, rfl, fun c => lets_iff, ra, hz, fun H1 b1 ra1 => ?_⟩
    refine ⟨_, rfl, .str _ (by show (l.takeWhile lets).toArray.size ≤ 1000; rw [List.size_toArray]; exact ll), fun H2 s2 => ⟨_, rfl, ?_⟩⟩
    rw [show markV (.str ⟨(l.takeWhile lets).toArray⟩) = goodMark (l.takeWhile lets) from good_mark lt]
    cases e : goodMark (l.takeWhile lets) with
    | false =>
      rw [if_pos rfl]
      exact ⟨by decide, k.no (by unfold pMark; rw [e]; rfl) H2 (b1.trans (But.of s2))⟩
    | true =>
      rw [if_neg (by decide)]
      exact k.yes (x := (⟨(l.takeWhile lets).toArray⟩, l.dropWhile lets)) (by unfold pMark; rw [if_pos e]) H2 (b1.trans (But.of s2)) (ra1.same s2)
theorem ok_Reader_read_number {f : Addr} {fd : FuncData} (F : Fun K "read_number" "Reader.read_number" s_Reader_read_number f fd) (T : Txt K mg ad) {f_Reader_read_run : Addr} {fd_Reader_read_run : FuncData} (G_Reader_read_run : FnOk P w K mg base CX0 2 f_Reader_read_run fd_Reader_read_run ["self", "signs"] (sp_read_run ad)) (B_Reader_read_run : Binds K fd_Reader_read_run ["self", "signs"] []) (ME_Reader_read_run : Meth K ad.Reader "read_run" f_Reader_read_run) : FnOk P w K mg base (CX1 P w) 3 f fd ["self"] (sp_read_number ad) := by
  refine F.okX sc_Reader_read_number (fun vs H Q E h => ?_) (fun cdv A outer s H vs Q E hr h => ?_)
  · obtain ⟨p, dx, z, l, n, rfl, _⟩ := h
    rfl
  · obtain ⟨p, dx, z, l, n, rfl, ra, hz, k⟩ := h
    obtain ⟨tk_FIGURES, h_FIGURES⟩ := T.g_FIGURES
    obtain ⟨tk_MOST_FIGURES, h_MOST_FIGURES⟩ := T.g_MOST_FIGURES
    obtain ⟨fs, hp, lk⟩ := ra.fields
    have lt := tw_mem (p := figs) l
    have ll : (l.takeWhile figs).length ≤ 1000 := by
      obtain ⟨i, hi, hd, ho⟩ := id ra
      have e := congrArg List.length hd
      rw [List.length_drop, chs_len] at e
      have := (List.takeWhile_sublist figs (l := l)).length_le
      omega
    refine ⟨_, (@pss_cons _ _ _ _ _ (ps_set (i := 1) sc_Reader_read_number.nd rfl (Or.inl rfl) (pe_meth (pv 0) T.cl_Reader ME_Reader_read_run G_Reader_read_run (hr.mono (by decide)) B_Reader_read_run .nil pass0 (pa_cons (pe_glob (v := .str "0123456789") rfl h_FIGURES ⟨_, rfl⟩) pa_nil)))
      (@pss_cons _ _ _ _ _ (ps_if (pt_not (pt_chain op_le op_le pe_int (pe_callB call_len_str rfl T.len PySem.boot_len (pa_cons (pv 1) pa_nil)) (pe_glob (v := .int 9) rfl h_MOST_FIGURES ⟨_, rfl⟩)))
      (@pss_one _ _ _ (ps_raise T.e_NoFault rfl raises1 rfl (pa_cons pe_str pa_nil)))
      pss_nil)
      (@pss_cons _ _ _ _ _ (ps_if (pt_cmpR op_eq (pe_ix ix_str (pv 1) pe_int (fun _ _ => rfl)) pe_str (nomark _))
      (@pss_one _ _ _ (ps_raise T.e_NoFault rfl raises1 rfl (pa_cons pe_str pa_nil)))
      pss_nil)
      (@pss_one _ _ _ (ps_ret (pe_callTy call_intT rfl T.int PyProof.Rows.boot_int (pa_cons (pv 1) pa_nil))))))), ?_⟩
    and_intros
    refine ⟨dx, fs, hp, lk _ (by decide +kernel) (by decide +kernel) (by decide +kernel), p, dx, z, l, n, _, figs, rfl, fun c => figs_iff, ra, hz, fun H1 b1 ra1 => ?_⟩
    have ln : (⟨(l.takeWhile figs).toArray⟩ : Str).length = (l.takeWhile figs).length := by rw [← chs_len]; rfl
    refine ⟨_, rfl, by rw [sizeLine_eq, ln]; omega, ?_⟩
    have bad : goodNum (l.takeWhile figs) = false → ∀ H', But p H H' → E (.ref ad.NoFault) none H' := fun g => k.no (by unfold pNum; rw [g]; rfl)
    have gd : goodNum (l.takeWhile figs) = (decide (1 ≤ (l.takeWhile figs).length) && decide ((l.takeWhile figs).length ≤ 9) && decide ((l.takeWhile figs).head? ≠ some 48)) := rfl
    rw [ln]
    refine ite2 (fun h1 => ?_) fun h1 => ⟨by decide, bad (by rw [gd, decide_eq_false (by omega)]; rfl) H1 b1⟩
    refine ite2 (fun h2 => ⟨by decide, bad (by rw [gd, decide_eq_false (show ¬ (l.takeWhile figs).length ≤ 9 by omega), Bool.and_false]; rfl) H1 b1⟩) fun h2 => ?_
    obtain ⟨c, t, ec⟩ : ∃ c t, l.takeWhile figs = c :: t := by
      cases e : l.takeWhile figs with
      | nil => rw [e] at h1; exact absurd h1 (by decide)
      | cons c t => exact ⟨c, t, rfl⟩
    refine ⟨_, rfl, by rw [sizeLine_eq, ln]; omega, c, (show atI _ ((0 : Nat) : Int) = _ from atI_nat (by show (l.takeWhile figs)[0]? = _; rw [ec]; rfl)), ?_⟩
    refine ite2 (fun h3 => ⟨by decide, bad ?_ H1 b1⟩) fun h3 => ?_
    · have e := congrArg chs h3
      rw [show chs (Str.ofString "0") = [48] by decide +kernel] at e
      cases e
      rw [gd, ec]
      simp
    · have c48 : c ≠ 48 := fun e => h3 (by rw [e]; decide +kernel)
      have g : goodNum (l.takeWhile figs) = true := by
        rw [gd, decide_eq_true (by omega), decide_eq_true (by omega), ec]
        simpa using c48
      obtain ⟨g1, g2⟩ := num_is g fun c hc => figs_iff.mp (lt c hc)
      refine ⟨(valN (l.takeWhile figs) : Int), by rw [← of_chs (Str.ofString (toString ((valN (l.takeWhile figs) : Nat) : Int))), g2], by omega, Int.lt_of_le_of_lt g1.2 (by decide +kernel), ?_⟩
      exact k.yes (x := ((valN (l.takeWhile figs) : Int), l.dropWhile figs)) (by unfold pNum; rw [if_pos g]) H1 b1 ra1
theorem ok_Reader_read_many {f : Addr} {fd : FuncData} (F : Fun K "read_many" "Reader.read_many" s_Reader_read_many f fd) (T : Txt K mg ad) {f_Reader_read_number : Addr} {fd_Reader_read_number : FuncData} (G_Reader_read_number : FnOk P w K mg base (CX1 P w) 3 f_Reader_read_number fd_Reader_read_number ["self"] (sp_read_number ad)) {f_Reader_read_sign : Addr} {fd_Reader_read_sign : FuncData} (G_Reader_read_sign : FnOk P w K mg base (CX1 P w) 3 f_Reader_read_sign fd_Reader_read_sign ["self", "sign"] (sp_read_sign ad)) {f_Many_init : Addr} {fd_Many_init : FuncData} (G_Many_init : FnOk P w K mg base CX0 1 f_Many_init fd_Many_init ["self", "number", "mark"] (sp_Many_init ad)) {f_Reader_read_mark : Addr} {fd_Reader_read_mark : FuncData} (G_Reader_read_mark : FnOk P w K mg base (CX1 P w) 3 f_Reader_read_mark fd_Reader_read_mark ["self"] (sp_read_mark ad)) (B_Reader_read_number : Binds K fd_Reader_read_number ["self"] []) (B_Reader_read_sign : Binds K fd_Reader_read_sign ["self", "sign"] []) (B_Many_init : Binds K fd_Many_init ["self", "number", "mark"] []) (B_Reader_read_mark : Binds K fd_Reader_read_mark ["self"] []) (ME_Reader_read_number : Meth K ad.Reader "read_number" f_Reader_read_number) (ME_Reader_read_sign : Meth K ad.Reader "read_sign" f_Reader_read_sign) (ME_Reader_read_mark : Meth K ad.Reader "read_mark" f_Reader_read_mark) (M_Many : Mk K ad.Many f_Many_init) : FnOk P w K mg base (CX1 P w) 4 f fd ["self"] (sp_read_many ad) := by
  refine F.okX sc_Reader_read_many (fun vs H Q E h => ?_) (fun cdv A outer s H vs Q E hr h => ?_)
  · obtain ⟨p, dx, z, l, n, rfl, _⟩ := h
    rfl
  · obtain ⟨p, dx, z, l, n, rfl, ra, hz, k⟩ := h
    obtain ⟨fs, hp, lk⟩ := ra.fields
    refine ⟨_, (@pss_cons _ _ _ _ _ (ps_set (i := 1) sc_Reader_read_many.nd rfl (Or.inl rfl) (pe_meth0 (pv 0) T.cl_Reader ME_Reader_read_number G_Reader_read_number (hr.mono (by decide)) B_Reader_read_number .nil pass1))
      (@pss_cons _ _ _ _ _ (ps_expr (pe_meth (pv 0) T.cl_Reader ME_Reader_read_sign G_Reader_read_sign (hr.mono (by decide)) B_Reader_read_sign .nil pass1 (pa_cons pe_str pa_nil)))
      (@pss_one _ _ _ (ps_ret (pe_make M_Many G_Many_init (hr.mono (by decide)) rfl T.c_Many B_Many_init .nil pass0 (pa_cons (pv 1) (pa_cons (pe_meth0 (pv 0) T.cl_Reader ME_Reader_read_mark G_Reader_read_mark (hr.mono (by decide)) B_Reader_read_mark .nil pass1) pa_nil))))))), ?_⟩
    and_intros
    refine ⟨dx, fs, hp, lk _ (by decide +kernel) (by decide +kernel) (by decide +kernel), p, dx, z, l, n, rfl, ra, hz, ⟨fun x e H1 b1 ra1 => ?_, fun e H1 b1 => k.no (by unfold pMany; rw [e]; rfl) H1 b1⟩⟩
    obtain ⟨fs1, hp1, lk1⟩ := ra1.fields
    refine ⟨dx, fs1, hp1, lk1 _ (by decide +kernel) (by decide +kernel) (by decide +kernel), p, dx, z, x.2, n, _, 44, rfl, by decide +kernel, ra1, hz, ⟨fun r2 e2 H2 b2 ra2 => ?_, fun e2 H2 b2 => k.no (by unfold pMany; rw [e, Option.bind_some, e2]; rfl) H2 (b1.trans b2)⟩⟩
    obtain ⟨fs2, hp2, lk2⟩ := ra2.fields
    refine ⟨dx, fs2, hp2, lk2 _ (by decide +kernel) (by decide +kernel) (by decide +kernel), p, dx, z, r2, n, rfl, ra2, hz, ⟨fun y e3 H3 b3 ra3 => ?_, fun e3 H3 b3 => k.no (by unfold pMany; rw [e, Option.bind_some, e2, Option.bind_some, e3]; rfl) H3 ((b1.trans b2).trans b3)⟩⟩
    refine fun q dq hq hdq hne => ⟨q, dq, x.1, y.1, rfl, upd_same, rfl, ?_⟩
    rw [upd_upd]
    exact k.yes (x := (.many x.1 y.1, y.2)) (by unfold pMany; rw [e, Option.bind_some, e2, Option.bind_some, e3]; rfl) (.ref q) _ (((b1.trans b2).trans b3).trans (But.of (mkSame hq hdq hne))) (by unfold FtAt; exact ⟨q, dq, rfl, upd_same⟩) (ra3.same (mkSame hq hdq hne))
theorem ok_Reader_read_pair {f : Addr} {fd : FuncData} (F : Fun K "read_pair" "Reader.read_pair" s_Reader_read_pair f fd) (T : Txt K mg ad) {f_Reader_read_mark : Addr} {fd_Reader_read_mark : FuncData} (G_Reader_read_mark : FnOk P w K mg base (CX1 P w) 3 f_Reader_read_mark fd_Reader_read_mark ["self"] (sp_read_mark ad)) {f_Reader_read_sign : Addr} {fd_Reader_read_sign : FuncData} (G_Reader_read_sign : FnOk P w K mg base (CX1 P w) 3 f_Reader_read_sign fd_Reader_read_sign ["self", "sign"] (sp_read_sign ad)) {f_pair_fault : Addr} {fd_pair_fault : FuncData} (G_pair_fault : FnOk P w K mg base CX0 3 f_pair_fault fd_pair_fault ["word", "one", "other"] (sp_pair_fault ad)) (D_pair_fault : Def K mg "pair_fault" s_pair_fault ["word", "one", "other"] f_pair_fault fd_pair_fault) (B_Reader_read_mark : Binds K fd_Reader_read_mark ["self"] []) (B_Reader_read_sign : Binds K fd_Reader_read_sign ["self", "sign"] []) (ME_Reader_read_mark : Meth K ad.Reader "read_mark" f_Reader_read_mark) (ME_Reader_read_sign : Meth K ad.Reader "read_sign" f_Reader_read_sign) : FnOk P w K mg base (CX1 P w) 4 f fd ["self", "word"] (sp_read_pair ad) := by
  refine F.okX sc_Reader_read_pair (fun vs H Q E h => ?_) (fun cdv A outer s H vs Q E hr h => ?_)
  · obtain ⟨p, dx, z, l, n, w, rfl, _⟩ := h
    rfl
  · obtain ⟨p, dx, z, l, n, w, rfl, hw, ra, hz, k⟩ := h
    obtain ⟨fs, hp, lk⟩ := ra.fields
    refine ⟨_, (@pss_cons _ _ _ _ _ (ps_set (i := 2) sc_Reader_read_pair.nd rfl (Or.inl rfl) (pe_meth0 (pv 0) T.cl_Reader ME_Reader_read_mark G_Reader_read_mark (hr.mono (by decide)) B_Reader_read_mark .nil pass1))
      (@pss_cons _ _ _ _ _ (ps_expr (pe_meth (pv 0) T.cl_Reader ME_Reader_read_sign G_Reader_read_sign (hr.mono (by decide)) B_Reader_read_sign .nil pass1 (pa_cons pe_str pa_nil)))
      (@pss_one _ _ _ (ps_ret (pe_call G_pair_fault (hr.mono (by decide)) rfl D_pair_fault.mg D_pair_fault.F.kp D_pair_fault.b .nil pass0 (pa_cons (pv 1) (pa_cons (pv 2) (pa_cons (pe_meth0 (pv 0) T.cl_Reader ME_Reader_read_mark G_Reader_read_mark (hr.mono (by decide)) B_Reader_read_mark .nil pass1) pa_nil)))))))), ?_⟩
    and_intros
    refine ⟨dx, fs, hp, lk _ (by decide +kernel) (by decide +kernel) (by decide +kernel), p, dx, z, l, n, rfl, ra, hz, ⟨fun x e H1 b1 ra1 => ?_, fun e H1 b1 => k.no (by unfold pPair; rw [e]; rfl) H1 b1⟩⟩
    obtain ⟨fs1, hp1, lk1⟩ := ra1.fields
    refine ⟨dx, fs1, hp1, lk1 _ (by decide +kernel) (by decide +kernel) (by decide +kernel), p, dx, z, x.2, n, _, 44, rfl, by decide +kernel, ra1, hz, ⟨fun r2 e2 H2 b2 ra2 => ?_, fun e2 H2 b2 => k.no (by unfold pPair; rw [e, Option.bind_some, e2]; rfl) H2 (b1.trans b2)⟩⟩
    obtain ⟨fs2, hp2, lk2⟩ := ra2.fields
    refine ⟨dx, fs2, hp2, lk2 _ (by decide +kernel) (by decide +kernel) (by decide +kernel), p, dx, z, r2, n, rfl, ra2, hz, ⟨fun y e3 H3 b3 ra3 => ?_, fun e3 H3 b3 => k.no (by unfold pPair; rw [e, Option.bind_some, e2, Option.bind_some, e3]; rfl) H3 ((b1.trans b2).trans b3)⟩⟩
    refine ⟨w, x.1, y.1, rfl, hw, fun u H4 s4 f4 => ?_⟩
    exact k.yes (x := (.pair w x.1 y.1, y.2)) (by unfold pPair; rw [e, Option.bind_some, e2, Option.bind_some, e3]; rfl) u H4 (((b1.trans b2).trans b3).trans (But.of s4)) f4 (ra3.same s4)
theorem ok_Reader_read_next {f : Addr} {fd : FuncData} {n : Nat} (F : Fun K "read_next" "Reader.read_next" s_Reader_read_next f fd) (T : Txt K mg ad) {f_Reader_read_run : Addr} {fd_Reader_read_run : FuncData} (G_Reader_read_run : FnOk P w K mg base CX0 2 f_Reader_read_run fd_Reader_read_run ["self", "signs"] (sp_read_run ad)) {f_Reader_read_sign : Addr} {fd_Reader_read_sign : FuncData} (G_Reader_read_sign : FnOk P w K mg base (CX1 P w) 3 f_Reader_read_sign fd_Reader_read_sign ["self", "sign"] (sp_read_sign ad)) {f_Reader_read_inside : Addr} {fd_Reader_read_inside : FuncData} (G_Reader_read_inside : FnOk P w K mg base (CX1 P w) (n + 5) f_Reader_read_inside fd_Reader_read_inside ["self", "word", "deep"] (sp_read_inside ad n)) (B_Reader_read_run : Binds K fd_Reader_read_run ["self", "signs"] []) (B_Reader_read_sign : Binds K fd_Reader_read_sign ["self", "sign"] []) (B_Reader_read_inside : Binds K fd_Reader_read_inside ["self", "word", "deep"] []) (ME_Reader_read_run : Meth K ad.Reader "read_run" f_Reader_read_run) (ME_Reader_read_sign : Meth K ad.Reader "read_sign" f_Reader_read_sign) (ME_Reader_read_inside : Meth K ad.Reader "read_inside" f_Reader_read_inside) : FnOk P w K mg base (CX1 P w) (n + 1 + 5) f fd ["self", "deep"] (sp_read_next ad (n + 1)) := by
  refine F.okX sc_Reader_read_next (fun vs H Q E h => ?_) (fun cdv A outer s H vs Q E hr h => ?_)
  · obtain ⟨p, dx, z, l, mt, deep, d, rfl, _⟩ := h
    rfl
  · obtain ⟨p, dx, z, l, mt, deep, d, rfl, hm, hdd, ⟨i, hi, hd, ho⟩, hz, k⟩ := h
    obtain ⟨tk_LETTERS, h_LETTERS⟩ := T.g_LETTERS
    obtain ⟨tk_DEEPEST, h_DEEPEST⟩ := T.g_DEEPEST
    obtain ⟨tk_MOST_FAULTS, h_MOST_FAULTS⟩ := T.g_MOST_FAULTS
    refine ⟨_, (@pss_cons _ _ _ _ _ (ps_fldaug (pv 0) pe_int in_add)
      (@pss_cons _ _ _ _ _ (ps_if (PW.pt (pw_or (pt_cmpR op_gt (pv 1) (pe_glob (v := .int 8) rfl h_DEEPEST ⟨_, rfl⟩) (nomark _)) (pw_or1 (pt_cmpR op_gt (pe_fld (pv 0) rfl) (pe_glob (v := .int 60) rfl h_MOST_FAULTS ⟨_, rfl⟩) (nomark _)))))
      (@pss_one _ _ _ (ps_raise T.e_NoFault rfl raises1 rfl (pa_cons pe_str pa_nil)))
      pss_nil)
      (@pss_cons _ _ _ _ _ (ps_set (i := 2) sc_Reader_read_next.nd rfl (Or.inl rfl) (pe_meth (pv 0) T.cl_Reader ME_Reader_read_run G_Reader_read_run (hr.mono (by omega)) B_Reader_read_run .nil pass0 (pa_cons (pe_glob (v := .str LET) rfl h_LETTERS ⟨_, rfl⟩) pa_nil)))
      (@pss_cons _ _ _ _ _ (ps_expr (pe_meth (pv 0) T.cl_Reader ME_Reader_read_sign G_Reader_read_sign (hr.mono (by omega)) B_Reader_read_sign .nil pass1 (pa_cons pe_str pa_nil)))
      (@pss_cons _ _ _ _ _ (ps_set (i := 3) sc_Reader_read_next.nd rfl (Or.inl rfl) (pe_meth (pv 0) T.cl_Reader ME_Reader_read_inside G_Reader_read_inside (hr.mono (by omega)) B_Reader_read_inside .nil pass1 (pa_cons (pv 2) (pa_cons (pv 1) pa_nil))))
      (@pss_cons _ _ _ _ _ (ps_expr (pe_meth (pv 0) T.cl_Reader ME_Reader_read_sign G_Reader_read_sign (hr.mono (by omega)) B_Reader_read_sign .nil pass1 (pa_cons pe_str pa_nil)))
      (@pss_one _ _ _ (ps_ret (pv 3))))))))), ?_⟩
    refine tseq_open fun B hB => ?_
    and_intros
    refine ⟨ad.Reader, dx, _, ho, T.cl_Reader, T.na_Reader_met, _, rf_met, _, rfl, dx, _, ho, (show 3 < 1000 by decide), ?_⟩
    rw [pf_met]
    have b0 : But p H (upd H p (.ins ad.Reader dx [(Str.ofString "text", .str z), (Str.ofString "at", .int (i : Int)), (Str.ofString "met", .int ((mt : Int) + 1))])) := (But.refl p H).upd
    have ho0 : RdO ad (upd H p (.ins ad.Reader dx [(Str.ofString "text", .str z), (Str.ofString "at", .int (i : Int)), (Str.ofString "met", .int ((mt : Int) + 1))])) p dx z i (mt + 1) := upd_same
    generalize (upd H p (.ins ad.Reader dx [(Str.ofString "text", .str z), (Str.ofString "at", .int (i : Int)), (Str.ofString "met", .int ((mt : Int) + 1))])) = H0 at b0 ho0 ⊢
    have ra0 : RdA ad H0 p dx z l (mt + 1) := ⟨i, hi, hd, ho0⟩
    subst hB
    refine tseq_open fun B hB => ?_
    and_intros
    cases d with
    | zero =>
      rw [if_pos (by omega)]
      exact ⟨by decide, k.no rfl H0 b0⟩
    | succ d =>
      rw [if_neg (by omega)]
      refine ⟨ad.Reader, dx, _, ho0, T.cl_Reader, T.na_Reader_met, _, rf_met, _, rfl, ite2 (fun h60 => ⟨by decide, k.no (by rw [next_go, if_pos (by omega)]) H0 b0⟩) fun h60 => ?_⟩
      subst hB
      refine tseq_open fun B hB => ?_
      and_intros
      obtain ⟨fs0, hp0, lk0⟩ := ra0.fields
      refine ⟨dx, fs0, hp0, lk0 _ (by decide +kernel) (by decide +kernel) (by decide +kernel), p, dx, z, l, mt + 1, LET, lets, rfl, fun c => lets_iff, ra0, hz, fun H1 b1 ra1 => ?_⟩
      have eN := next_go 60 d l mt
      rw [if_neg (show ¬ 60 < mt + 1 by omega)] at eN
      obtain ⟨fs1, hp1, lk1⟩ := ra1.fields
      subst hB
      and_intros
      refine ⟨dx, fs1, hp1, lk1 _ (by decide +kernel) (by decide +kernel) (by decide +kernel), p, dx, z, _, mt + 1, _, 40, rfl, by decide +kernel, ra1, hz, ⟨fun r2 e2 H2 b2 ra2 => ?_, fun e2 H2 b2 => k.no (by rw [eN, e2]; rfl) H2 ((b0.trans b1).trans b2)⟩⟩
      obtain ⟨fs2, hp2, lk2⟩ := ra2.fields
      refine ⟨dx, fs2, hp2, lk2 _ (by decide +kernel) (by decide +kernel) (by decide +kernel), p, dx, z, r2, mt + 1, deep, d, ⟨(l.takeWhile lets).toArray⟩, rfl, by omega, by omega, by omega, ra2, hz, ⟨fun x e3 u H3 b3 f3 ra3 => ?_, fun e3 H3 b3 => k.no (by rw [eN, e2, Option.bind_some, show pInside (pNext 60 d) 60 (l.takeWhile lets) r2 (mt + 1) = none from e3]; rfl) H3 (((b0.trans b1).trans b2).trans b3)⟩⟩
      obtain ⟨fs3, hp3, lk3⟩ := ra3.fields
      refine ⟨dx, fs3, hp3, lk3 _ (by decide +kernel) (by decide +kernel) (by decide +kernel), p, dx, z, _, _, _, 41, rfl, by decide +kernel, ra3, hz, ⟨fun r4 e4 H4 b4 ra4 => ?_, fun e4 H4 b4 => k.no (by rw [eN, e2, Option.bind_some, show pInside (pNext 60 d) 60 (l.takeWhile lets) r2 (mt + 1) = some x from e3, Option.bind_some, e4]; rfl) H4 ((((b0.trans b1).trans b2).trans b3).trans b4)⟩⟩
      exact k.yes (x := (x.1, r4, x.2.2)) (by rw [eN, e2, Option.bind_some, show pInside (pNext 60 d) 60 (l.takeWhile lets) r2 (mt + 1) = some x from e3, Option.bind_some, e4]; rfl) u H4 ((((b0.trans b1).trans b2).trans b3).trans b4) (f3.ni (ra3.ni b4)) ra4
theorem ok_Reader_read_inside {f : Addr} {fd : FuncData} {n : Nat} (F : Fun K "read_inside" "Reader.read_inside" s_Reader_read_inside f fd) (T : Txt K mg ad) {f_Has_init : Addr} {fd_Has_init : FuncData} (G_Has_init : FnOk P w K mg base CX0 1 f_Has_init fd_Has_init ["self", "mark"] (sp_Has_init ad)) {f_Reader_read_mark : Addr} {fd_Reader_read_mark : FuncData} (G_Reader_read_mark : FnOk P w K mg base (CX1 P w) 3 f_Reader_read_mark fd_Reader_read_mark ["self"] (sp_read_mark ad)) {f_Reader_read_many : Addr} {fd_Reader_read_many : FuncData} (G_Reader_read_many : FnOk P w K mg base (CX1 P w) 4 f_Reader_read_many fd_Reader_read_many ["self"] (sp_read_many ad)) {f_Reader_read_pair : Addr} {fd_Reader_read_pair : FuncData} (G_Reader_read_pair : FnOk P w K mg base (CX1 P w) 4 f_Reader_read_pair fd_Reader_read_pair ["self", "word"] (sp_read_pair ad)) {f_Joint_init : Addr} {fd_Joint_init : FuncData} (G_Joint_init : FnOk P w K mg base CX0 1 f_Joint_init fd_Joint_init ["self", "parts"] (sp_Joint_init K ad)) {f_Reader_read_parts : Addr} {fd_Reader_read_parts : FuncData} (G_Reader_read_parts : FnOk P w K mg base (CX1 P w) (n + 5) f_Reader_read_parts fd_Reader_read_parts ["self", "deep"] (sp_read_parts ad n)) {f_Not_init : Addr} {fd_Not_init : FuncData} (G_Not_init : FnOk P w K mg base CX0 1 f_Not_init fd_Not_init ["self", "part"] (sp_Not_init ad)) {f_Reader_read_next : Addr} {fd_Reader_read_next : FuncData} (G_Reader_read_next : FnOk P w K mg base (CX1 P w) (n + 5) f_Reader_read_next fd_Reader_read_next ["self", "deep"] (sp_read_next ad n)) (B_Has_init : Binds K fd_Has_init ["self", "mark"] []) (B_Reader_read_mark : Binds K fd_Reader_read_mark ["self"] []) (B_Reader_read_many : Binds K fd_Reader_read_many ["self"] []) (B_Reader_read_pair : Binds K fd_Reader_read_pair ["self", "word"] []) (B_Joint_init : Binds K fd_Joint_init ["self", "parts"] []) (B_Reader_read_parts : Binds K fd_Reader_read_parts ["self", "deep"] []) (B_Not_init : Binds K fd_Not_init ["self", "part"] []) (B_Reader_read_next : Binds K fd_Reader_read_next ["self", "deep"] []) (ME_Reader_read_mark : Meth K ad.Reader "read_mark" f_Reader_read_mark) (ME_Reader_read_many : Meth K ad.Reader "read_many" f_Reader_read_many) (ME_Reader_read_pair : Meth K ad.Reader "read_pair" f_Reader_read_pair) (ME_Reader_read_parts : Meth K ad.Reader "read_parts" f_Reader_read_parts) (ME_Reader_read_next : Meth K ad.Reader "read_next" f_Reader_read_next) (M_Has : Mk K ad.Has f_Has_init) (M_All : Mk K ad.All f_Joint_init) (M_Any : Mk K ad.Any f_Joint_init) (M_Not : Mk K ad.Not f_Not_init) : FnOk P w K mg base (CX1 P w) (n + 1 + 5) f fd ["self", "word", "deep"] (sp_read_inside ad (n + 1)) := by
  refine F.okX sc_Reader_read_inside (fun vs H Q E h => ?_) (fun cdv A outer s H vs Q E hr h => ?_)
  · obtain ⟨p, dx, z, l, mt, deep, d, w, rfl, _⟩ := h
    rfl
  · obtain ⟨p, dx, z, l, mt, deep, d, w, rfl, hm, hdd, h60, ra, hz, k⟩ := h
    obtain ⟨fs, hp, lk⟩ := ra.fields
    have c1 : w = Str.ofString "has" ↔ chs w = wHas := word_iff (by decide +kernel)
    have c2 : w = Str.ofString "many" ↔ chs w = wMany := word_iff (by decide +kernel)
    have c3 : pairW w ↔ (chs w = wBefore ∨ chs w = wUnder ∨ chs w = wBeside) := by
      unfold pairW
      rw [show (w = "before") = (w = Str.ofString "before") from rfl, word_iff (show chs (Str.ofString "before") = wBefore by decide +kernel), word_iff (show chs (Str.ofString "under") = wUnder by decide +kernel), word_iff (show chs (Str.ofString "beside") = wBeside by decide +kernel)]
    have c4 : w = Str.ofString "all" ↔ chs w = wAll := word_iff (by decide +kernel)
    have c5 : w = Str.ofString "any" ↔ chs w = wAny := word_iff (by decide +kernel)
    have c6 : w = Str.ofString "not" ↔ chs w = wNot := word_iff (by decide +kernel)
    refine ⟨_, (@pss_cons _ _ _ _ _ (ps_if (pt_cmpR op_eq (pv 1) pe_str (nomark _))
      (@pss_one _ _ _ (ps_ret (pe_make M_Has G_Has_init (hr.mono (by omega)) rfl T.c_Has B_Has_init .nil pass0 (pa_cons (pe_meth0 (pv 0) T.cl_Reader ME_Reader_read_mark G_Reader_read_mark (hr.mono (by omega)) B_Reader_read_mark .nil pass1) pa_nil))))
      pss_nil)
      (@pss_cons _ _ _ _ _ (ps_if (pt_cmpR op_eq (pv 1) pe_str (nomark _))
      (@pss_one _ _ _ (ps_ret (pe_meth0 (pv 0) T.cl_Reader ME_Reader_read_many G_Reader_read_many (hr.mono (by omega)) B_Reader_read_many .nil pass1)))
      pss_nil)
      (@pss_cons _ _ _ _ _ (ps_if (pt_cmpR op_in_seq (pv 1) (pe_tup (pa_cons pe_str (pa_cons pe_str (pa_cons pe_str pa_nil)))) rfl)
      (@pss_one _ _ _ (ps_ret (pe_meth (pv 0) T.cl_Reader ME_Reader_read_pair G_Reader_read_pair (hr.mono (by omega)) B_Reader_read_pair .nil pass1 (pa_cons (pv 1) pa_nil))))
      pss_nil)
      (@pss_cons _ _ _ _ _ (ps_if (pt_cmpR op_eq (pv 1) pe_str (nomark _))
      (@pss_one _ _ _ (ps_ret (pe_make M_All G_Joint_init (hr.mono (by omega)) rfl T.c_All B_Joint_init .nil pass0 (pa_cons (pe_meth (pv 0) T.cl_Reader ME_Reader_read_parts G_Reader_read_parts (hr.mono (by omega)) B_Reader_read_parts .nil pass1 (pa_cons (pe_op op_add (pv 2) pe_int) pa_nil)) pa_nil))))
      pss_nil)
      (@pss_cons _ _ _ _ _ (ps_if (pt_cmpR op_eq (pv 1) pe_str (nomark _))
      (@pss_one _ _ _ (ps_ret (pe_make M_Any G_Joint_init (hr.mono (by omega)) rfl T.c_Any B_Joint_init .nil pass0 (pa_cons (pe_meth (pv 0) T.cl_Reader ME_Reader_read_parts G_Reader_read_parts (hr.mono (by omega)) B_Reader_read_parts .nil pass1 (pa_cons (pe_op op_add (pv 2) pe_int) pa_nil)) pa_nil))))
      pss_nil)
      (@pss_cons _ _ _ _ _ (ps_if (pt_cmpR op_eq (pv 1) pe_str (nomark _))
      (@pss_one _ _ _ (ps_ret (pe_make M_Not G_Not_init (hr.mono (by omega)) rfl T.c_Not B_Not_init .nil pass0 (pa_cons (pe_meth (pv 0) T.cl_Reader ME_Reader_read_next G_Reader_read_next (hr.mono (by omega)) B_Reader_read_next .nil pass1 (pa_cons (pe_op op_add (pv 2) pe_int) pa_nil)) pa_nil))))
      pss_nil)
      (@pss_one _ _ _ (ps_raise T.e_NoFault rfl raises1 rfl (pa_cons pe_str pa_nil))))))))), ?_⟩
    and_intros
    refine ite2 (fun h => ?_) fun h1 => ?_
    · have eI : pInside (pNext 60 d) 60 (chs w) l mt = (pMark l).bind fun x => some (.has x.1, x.2, mt) := by unfold pInside; rw [if_pos (c1.mp h)]
      refine ⟨dx, fs, hp, lk _ (by decide +kernel) (by decide +kernel) (by decide +kernel), p, dx, z, l, mt, rfl, ra, hz, ⟨fun x e H1 b1 ra1 => fun q dq hq hdq hne => ⟨q, dq, x.1, rfl, upd_same, rfl, ?_⟩, fun e H1 b1 => k.no (by rw [eI, e]; rfl) H1 b1⟩⟩
      rw [upd_upd]
      exact k.yes (x := (.has x.1, x.2, mt)) (by rw [eI, e]; rfl) (.ref q) _ (b1.trans (But.of (mkSame hq hdq hne))) (by unfold FtAt; exact ⟨q, dq, rfl, upd_same⟩) (ra1.same (mkSame hq hdq hne))
    have g1 := fun z => h1 (c1.mpr z)
    refine ite2 (fun h => ?_) fun h2 => ?_
    · have eI : pInside (pNext 60 d) 60 (chs w) l mt = (pMany l).bind fun x => some (x.1, x.2, mt) := by unfold pInside; rw [if_neg g1, if_pos (c2.mp h)]
      exact ⟨dx, fs, hp, lk _ (by decide +kernel) (by decide +kernel) (by decide +kernel), p, dx, z, l, mt, rfl, ra, hz, ⟨fun x e u H1 b1 f1 ra1 => k.yes (x := (x.1, x.2, mt)) (by rw [eI, e]; rfl) u H1 b1 f1 ra1, fun e H1 b1 => k.no (by rw [eI, e]; rfl) H1 b1⟩⟩
    have g2 := fun z => h2 (c2.mpr z)
    refine ⟨by decide, fun t h3 => ⟨t, _, rfl, .inr (SqT.of upd_same), rfl, rfl, _, rfl, ?_⟩⟩
    have s1 := Same.put (o := .tup [.str "before", .str "under", .str "beside"]) h3
    generalize (upd H t (.tup [.str "before", .str "under", .str "beside"])) = H0 at s1 ⊢
    have ra0 := ra.same s1
    obtain ⟨fs0, hp0, lk0⟩ := ra0.fields
    refine ite2 (fun h => ?_) fun h3 => ?_
    · have hw := pw_iff.mp h
      have eI : pInside (pNext 60 d) 60 (chs w) l mt = (pPair w l).bind fun x => some (x.1, x.2, mt) := by unfold pInside; rw [if_neg g1, if_neg g2, if_pos (c3.mp hw), of_chs]
      exact ⟨dx, fs0, hp0, lk0 _ (by decide +kernel) (by decide +kernel) (by decide +kernel), p, dx, z, l, mt, w, rfl, hw, ra0, hz, ⟨fun x e u H1 b1 f1 ra1 => k.yes (x := (x.1, x.2, mt)) (by rw [eI, e]; rfl) u H1 ((But.of s1).trans b1) f1 ra1, fun e H1 b1 => k.no (by rw [eI, e]; rfl) H1 ((But.of s1).trans b1)⟩⟩
    have g3 := fun z => h3 (pw_iff.mpr (c3.mpr z))
    refine ite2 (fun h => ?_) fun h4 => ?_
    · have eI : pInside (pNext 60 d) 60 (chs w) l mt = pJoint (pNext 60 d) 60 true l mt := by unfold pInside; rw [if_neg g1, if_neg g2, if_neg g3, if_pos (c4.mp h)]
      refine ⟨dx, fs0, hp0, lk0 _ (by decide +kernel) (by decide +kernel) (by decide +kernel), p, dx, z, l, mt, deep + 1, d, rfl, by omega, by omega, h60, ra0, hz, ⟨fun x e q ys H1 b1 l1 f1 ra1 => fun y dy hy hdy hne => ⟨y, dy, q, true, ys, rfl, upd_same, SqL.of ((mkSame hy hdy hne) _ _ l1), fun t2 ht2 => ⟨rfl, ?_⟩⟩, fun e H1 b1 => k.no (by rw [eI, joint_eq, e]; rfl) H1 ((But.of s1).trans b1)⟩⟩
      have sM := mkSame2 (o := .tup ys) (o' := .ins (clsJ ad true) dy [("parts", .ref t2)]) hy hdy hne ht2
      have tz : t2 ≠ y := fun e => by rw [e, upd_same] at ht2; cases ht2
      exact k.yes (x := (.joint true x.1, x.2.1, x.2.2)) (by rw [eI, joint_eq, e]; rfl) (.ref y) _ (((But.of s1).trans b1).trans (But.of sM)) (by unfold FtAt; exact ⟨y, dy, t2, ys, rfl, upd_same, by rw [upd_ne tz]; exact upd_same, f1.same sM⟩) (ra1.same sM)
    have g4 := fun z => h4 (c4.mpr z)
    refine ite2 (fun h => ?_) fun h5 => ?_
    · have eI : pInside (pNext 60 d) 60 (chs w) l mt = pJoint (pNext 60 d) 60 false l mt := by unfold pInside; rw [if_neg g1, if_neg g2, if_neg g3, if_neg g4, if_pos (c5.mp h)]
      refine ⟨dx, fs0, hp0, lk0 _ (by decide +kernel) (by decide +kernel) (by decide +kernel), p, dx, z, l, mt, deep + 1, d, rfl, by omega, by omega, h60, ra0, hz, ⟨fun x e q ys H1 b1 l1 f1 ra1 => fun y dy hy hdy hne => ⟨y, dy, q, false, ys, rfl, upd_same, SqL.of ((mkSame hy hdy hne) _ _ l1), fun t2 ht2 => ⟨rfl, ?_⟩⟩, fun e H1 b1 => k.no (by rw [eI, joint_eq, e]; rfl) H1 ((But.of s1).trans b1)⟩⟩
      have sM := mkSame2 (o := .tup ys) (o' := .ins (clsJ ad false) dy [("parts", .ref t2)]) hy hdy hne ht2
      have tz : t2 ≠ y := fun e => by rw [e, upd_same] at ht2; cases ht2
      exact k.yes (x := (.joint false x.1, x.2.1, x.2.2)) (by rw [eI, joint_eq, e]; rfl) (.ref y) _ (((But.of s1).trans b1).trans (But.of sM)) (by unfold FtAt; exact ⟨y, dy, t2, ys, rfl, upd_same, by rw [upd_ne tz]; exact upd_same, f1.same sM⟩) (ra1.same sM)
    have g5 := fun z => h5 (c5.mpr z)
    refine ite2 (fun h => ?_) fun h6 => ?_
    · have eI : pInside (pNext 60 d) 60 (chs w) l mt = (pNext 60 d l mt).bind fun x => some (.not x.1, x.2.1, x.2.2) := by unfold pInside; rw [if_neg g1, if_neg g2, if_neg g3, if_neg g4, if_neg g5, if_pos (c6.mp h)]
      refine ⟨dx, fs0, hp0, lk0 _ (by decide +kernel) (by decide +kernel) (by decide +kernel), p, dx, z, l, mt, deep + 1, d, rfl, by omega, by omega, ra0, hz, ⟨fun x e u H1 b1 f1 ra1 => fun q dq hq hdq hne => ⟨q, dq, u, rfl, upd_same, rfl, ?_⟩, fun e H1 b1 => k.no (by rw [eI, e]; rfl) H1 ((But.of s1).trans b1)⟩⟩
      rw [upd_upd]
      exact k.yes (x := (.not x.1, x.2.1, x.2.2)) (by rw [eI, e]; rfl) (.ref q) _ (((But.of s1).trans b1).trans (But.of (mkSame hq hdq hne))) (by unfold FtAt; exact ⟨q, dq, u, rfl, upd_same, f1.same (mkSame hq hdq hne)⟩) (ra1.same (mkSame hq hdq hne))
    exact ⟨by decide, k.no (by unfold pInside; rw [if_neg g1, if_neg g2, if_neg g3, if_neg g4, if_neg g5, if_neg (fun z => h6 (c6.mpr z))]) H0 (But.of s1)⟩
theorem ok_Reader_read_parts {f : Addr} {fd : FuncData} {n : Nat} (F : Fun K "read_parts" "Reader.read_parts" s_Reader_read_parts f fd) (T : Txt K mg ad) {f_Reader_read_next : Addr} {fd_Reader_read_next : FuncData} (G_Reader_read_next : FnOk P w K mg base (CX1 P w) (n + 5) f_Reader_read_next fd_Reader_read_next ["self", "deep"] (sp_read_next ad n)) {f_Reader_is_at : Addr} {fd_Reader_is_at : FuncData} (G_Reader_is_at : FnOk P w K mg base CX0 2 f_Reader_is_at fd_Reader_is_at ["self", "sign"] (sp_is_at ad)) {f_Reader_read_sign : Addr} {fd_Reader_read_sign : FuncData} (G_Reader_read_sign : FnOk P w K mg base (CX1 P w) 3 f_Reader_read_sign fd_Reader_read_sign ["self", "sign"] (sp_read_sign ad)) (B_Reader_read_next : Binds K fd_Reader_read_next ["self", "deep"] []) (B_Reader_is_at : Binds K fd_Reader_is_at ["self", "sign"] []) (B_Reader_read_sign : Binds K fd_Reader_read_sign ["self", "sign"] []) (ME_Reader_read_next : Meth K ad.Reader "read_next" f_Reader_read_next) (ME_Reader_is_at : Meth K ad.Reader "is_at" f_Reader_is_at) (ME_Reader_read_sign : Meth K ad.Reader "read_sign" f_Reader_read_sign) : FnOk P w K mg base (CX1 P w) (n + 1 + 5) f fd ["self", "deep"] (sp_read_parts ad (n + 1)) := by
  refine F.okX sc_Reader_read_parts (fun vs H Q E h => ?_) (fun cdv A outer s H vs Q E hr h => ?_)
  · obtain ⟨p, dx, z, l, mt, deep, d, rfl, _⟩ := h
    rfl
  · obtain ⟨p, dx, z, l, mt, deep, d, rfl, hm, hdd, h60, ra, hz, k⟩ := h
    obtain ⟨tk_FEWEST_PARTS, h_FEWEST_PARTS⟩ := T.g_FEWEST_PARTS
    obtain ⟨tk_MOST_PARTS, h_MOST_PARTS⟩ := T.g_MOST_PARTS
    obtain ⟨fs, hp, lk⟩ := ra.fields
    have Tn := next_is 60 d
    refine ⟨_, (@pss_cons _ _ _ _ _ (ps_set (i := 2) sc_Reader_read_parts.nd rfl (Or.inl rfl) (pe_lst (pa_cons (pe_meth (pv 0) T.cl_Reader ME_Reader_read_next G_Reader_read_next (hr.mono (by omega)) B_Reader_read_next .nil pass1 (pa_cons (pv 1) pa_nil)) pa_nil)))
      (@pss_cons _ _ _ _ _ (ps_while PassesOwn.leaving (pt_val (pe_meth (pv 0) T.cl_Reader ME_Reader_is_at G_Reader_is_at (hr.mono (by omega)) B_Reader_is_at .nil pass0 (pa_cons pe_str pa_nil)))
      (@pss_cons _ _ _ _ _ (ps_expr (pe_meth (pv 0) T.cl_Reader ME_Reader_read_sign G_Reader_read_sign (hr.mono (by omega)) B_Reader_read_sign .nil pass1 (pa_cons pe_str pa_nil)))
      (@pss_one _ _ _ (ps_expr (pe_bm PySem.F.plainAttrs_list PySem.F.slot_list_append PySem.F.type_list_append mt_append (pv 2) (pa_cons (pe_meth (pv 0) T.cl_Reader ME_Reader_read_next G_Reader_read_next (hr.mono (by omega)) B_Reader_read_next .nil pass1 (pa_cons (pv 1) pa_nil)) pa_nil))))))
      (@pss_cons _ _ _ _ _ (ps_if (pt_not (pt_chain op_le op_le (pe_glob (v := .int 2) rfl h_FEWEST_PARTS ⟨_, rfl⟩) (pe_callB call_lenL rfl T.len PySem.boot_len (pa_cons (pv 2) pa_nil)) (pe_glob (v := .int 6) rfl h_MOST_PARTS ⟨_, rfl⟩)))
      (@pss_one _ _ _ (ps_raise T.e_NoFault rfl raises1 rfl (pa_cons pe_str pa_nil)))
      pss_nil)
      (@pss_one _ _ _ (ps_ret (pv 2)))))), ?_⟩
    refine tseq_open fun B hB => ?_
    and_intros
    refine ⟨dx, fs, hp, lk _ (by decide +kernel) (by decide +kernel) (by decide +kernel), p, dx, z, l, mt, deep, d, rfl, by omega, hdd, ra, hz, ⟨fun x e u H1 b1 f1 ra1 => ⟨by decide, fun q hq1 => ?_⟩, fun e H1 b1 => k.no (by rw [parts_cont, e]; rfl) H1 b1⟩⟩
    obtain ⟨_, _, t3, t4, _⟩ := Tn l mt x.1 x.2.1 x.2.2 e
    have tp := szT_pos x.1
    have eP : pParts (pNext 60 d) 61 l mt = contP (pNext 60 d) 60 [x.1] x.2.1 x.2.2 := by rw [parts_cont, e]; rfl
    obtain ⟨fs1, hp1, _⟩ := ra1.fields
    have nq : q ≠ p := fun z => by rw [z, hp1] at hq1; cases hq1
    have hqH : H q = none := b1.free nq hq1
    have s1 := Same.put (o := .lst [u]) hq1
    have bA : But p H (upd H1 q (.lst [u])) := b1.put hqH
    have fA : (upd H1 q (.lst [u])) q = some (.lst [u]) := upd_same
    generalize (upd H1 q (.lst [u])) = H2 at s1 bA fA ⊢
    subst hB
    refine tseq_open fun B hB => ?_
    refine ⟨fun m σ H' => ∃ n1, PSt ad H p dx q z (pNext 60 d) (pParts (pNext 60 d) 61 l mt) n1 H' ∧ m = 61 - n1 ∧ StIs σ [some (.ref p), some (.int (deep : Int)), some (.ref q)], ⟨_, x.2.2, ⟨[x.1], [u], x.2.1, 60, bA, fA, ?_, ra1.same s1, by omega, t4, (by show 1 ≤ x.2.2; omega), eP⟩, rfl, StIs.rfl⟩, ?_⟩
    · unfold FtsAt
      exact ⟨f1.same s1, by unfold FtsAt; trivial⟩
    clear eP
    rintro m σ H' ⟨n1, ⟨ts, ys, r, f, b2, hy, fy, ra2, hf, hn1, ht1, eP⟩, rfl, rfl⟩
    have ly := fy.length
    refine test_first (fun b H1 => H1 = H' ∧ b = (pSign 44 r).isSome) (fun G hG => ?_) ?_
    · and_intros
      obtain ⟨fs2, hp2, lk2⟩ := ra2.fields
      exact ⟨dx, fs2, hp2, lk2 _ (by decide +kernel) (by decide +kernel) (by decide +kernel), p, dx, z, r, n1, _, 44, rfl, by decide +kernel, ra2, hz, _, rfl, hG _ _ ⟨rfl, rfl⟩⟩
    rintro b H1' ⟨rfl, rfl⟩
    cases e2 : pSign 44 r with
    | some r2 =>
      refine (show if (true = true) then _ else _ from ?_)
      rw [if_pos rfl]
      obtain ⟨f', rfl⟩ : ∃ f', f = f' + 1 := ⟨f - 1, by omega⟩
      refine ⟨fun σ' H3 => PNx ad H p dx q z (pNext 60 d) (pParts (pNext 60 d) 61 l mt) n1 H3 ∧ StIs σ' [some (.ref p), some (.int (deep : Int)), some (.ref q)], fun σ' H3 ⟨⟨n2, e1, e2⟩, e3⟩ => ⟨61 - n2, by obtain ⟨_, _, _, _, _, _, _, _, _, h, _⟩ := id e2; omega, n2, e2, rfl, e3⟩, ?_⟩
      and_intros
      obtain ⟨fs2, hp2, lk2⟩ := ra2.fields
      refine ⟨dx, fs2, hp2, lk2 _ (by decide +kernel) (by decide +kernel) (by decide +kernel), p, dx, z, r, n1, _, 44, rfl, by decide +kernel, ra2, hz, ⟨fun r' e' H3 b3 ra3 => ?_, fun e' => nomatch e2.symm.trans e'⟩⟩
      obtain rfl : r2 = r' := Option.some.inj (e2.symm.trans e')
      have hy3 := b3 _ _ nq hy
      obtain ⟨fs3, hp3, lk3⟩ := ra3.fields
      refine ⟨.inl ⟨rfl, _, SqL.of hy3⟩, dx, fs3, hp3, lk3 _ (by decide +kernel) (by decide +kernel) (by decide +kernel), p, dx, z, r2, n1, deep, d, rfl, by omega, hdd, ra3, hz, ⟨fun y ey u3 H4 b4 f4 ra4 => ?_, fun ey H4 b4 => k.no (by rw [eP, cont_none e2 ey]; rfl) H4 ((b2.trans b3).trans b4)⟩⟩
      obtain ⟨_, _, t5, t6, _⟩ := Tn r2 n1 y.1 y.2.1 y.2.2 ey
      have tq := szT_pos y.1
      have hy4 := b4 _ _ nq hy3
      have fs4 := (fy.ni (ra2.ni b3)).ni (ra3.ni b4)
      have nl4 : NL H4 (upd H4 q (.lst (ys ++ [u3]))) := (NL.refl H4).upd hy4
      obtain ⟨i4, hi4, hd4, ho4⟩ := ra4
      exact ⟨_, hy4, small1000 (by omega), ⟨y.2.2, by omega, ts ++ [y.1], ys ++ [u3], y.2.1, f', ((b2.trans b3).trans b4).put hqH, upd_same, (fs4.nl nl4).snoc (f4.nl nl4), ⟨i4, hi4, hd4, by unfold RdO; rw [upd_ne (Ne.symm nq)]; exact ho4⟩, by omega, t6, (by rw [List.length_append]; show ts.length + 1 ≤ _; omega), eP.trans (cont_step e2 ey)⟩, StIs.rfl⟩
    | none =>
      refine (show if (false = true) then _ else _ from ?_)
      rw [if_neg (by decide)]
      have eP2 : pParts (pNext 60 d) 61 l mt = some (ts, r, n1) := by rw [eP]; unfold contP; rw [e2]
      dsimp only
      subst hB
      and_intros
      refine ⟨_, SqL.of hy, ?_⟩
      refine ite2 (fun h2 => ite2 (fun h6 => ⟨by decide, k.no ?_ _ b2⟩) fun h6 => k.yes (x := (ts, r, n1)) ?_ q ys _ b2 hy fy ra2) fun h2 => ⟨by decide, k.no ?_ _ b2⟩
      · rw [eP2]
        exact if_neg (show ¬ (2 ≤ ts.length ∧ ts.length ≤ 6) by omega)
      · rw [eP2]
        exact if_pos (show 2 ≤ ts.length ∧ ts.length ≤ 6 by omega)
      · rw [eP2]
        exact if_neg (show ¬ (2 ≤ ts.length ∧ ts.length ≤ 6) by omega)
theorem ok_read_fault {f : Addr} {fd : FuncData} (D : Def K mg "read_fault" s_read_fault ["text"] f fd) (T : Txt K mg ad) {f_Reader_init : Addr} {fd_Reader_init : FuncData} (G_Reader_init : FnOk P w K mg base CX0 1 f_Reader_init fd_Reader_init ["self", "text"] (sp_Reader_init ad)) {f_Reader_read_next : Addr} {fd_Reader_read_next : FuncData} (G_Reader_read_next : FnOk P w K mg base (CX1 P w) 39 f_Reader_read_next fd_Reader_read_next ["self", "deep"] (sp_read_next ad 34)) {f_Reader_is_at_end : Addr} {fd_Reader_is_at_end : FuncData} (G_Reader_is_at_end : FnOk P w K mg base CX0 1 f_Reader_is_at_end fd_Reader_is_at_end ["self"] (sp_is_at_end ad)) (B_Reader_init : Binds K fd_Reader_init ["self", "text"] []) (B_Reader_read_next : Binds K fd_Reader_read_next ["self", "deep"] []) (B_Reader_is_at_end : Binds K fd_Reader_is_at_end ["self"] []) (ME_Reader_read_next : Meth K ad.Reader "read_next" f_Reader_read_next) (ME_Reader_is_at_end : Meth K ad.Reader "is_at_end" f_Reader_is_at_end) (M_Reader : Mk K ad.Reader f_Reader_init) : FnOk P w K mg base (CX1 P w) 40 f fd ["text"] (sp_read_fault K ad) := by
  refine D.F.okX sc_read_fault (fun vs H Q E h => ?_) (fun cdv A outer s H vs Q E hr h => ?_)
  · obtain ⟨v, ty, b, rfl, _⟩ := h
    rfl
  · obtain ⟨v, ty, b, rfl, ht, hb, kf, kt⟩ := h
    refine ⟨_, (@pss_cons _ _ _ _ _ (ps_if (pt_not (pt_val (pe_callB call_isiT rfl T.isinstance PyProof.Rows.boot_isinstance (pa_cons (pv 0) (pa_cons (pe_ty rfl T.str PyProof.Rows.boot_str) pa_nil)))))
      (@pss_one _ _ _ (ps_raise T.e_NoFault rfl raises1 rfl (pa_cons pe_str pa_nil)))
      pss_nil)
      (@pss_cons _ _ _ _ _ (ps_set (i := 1) sc_read_fault.nd rfl (Or.inl rfl) (pe_make M_Reader G_Reader_init (hr.mono (by decide)) rfl T.c_Reader B_Reader_init .nil pass0 (pa_cons (pv 0) pa_nil)))
      (@pss_cons _ _ _ _ _ (ps_set (i := 2) sc_read_fault.nd rfl (Or.inl rfl) (pe_meth (pv 1) T.cl_Reader ME_Reader_read_next G_Reader_read_next (hr.mono (by decide)) B_Reader_read_next .nil pass1 (pa_cons pe_int pa_nil)))
      (@pss_cons _ _ _ _ _ (ps_if (pt_not (pt_val (pe_meth0 (pv 1) T.cl_Reader ME_Reader_is_at_end G_Reader_is_at_end (hr.mono (by decide)) B_Reader_is_at_end .nil pass0)))
      (@pss_one _ _ _ (ps_raise T.e_NoFault rfl raises1 rfl (pa_cons pe_str pa_nil)))
      pss_nil)
      (@pss_one _ _ _ (ps_ret (pv 2))))))), ?_⟩
    and_intros
    refine ⟨ty, ht, b, hb, ?_⟩
    cases b with
    | false =>
      rw [if_pos rfl]
      exact ⟨by decide, kf rfl H (Same.refl _)⟩
    | true =>
      rw [if_neg (by decide)]
      obtain ⟨z, rfl, hz, k1, k2⟩ := kt rfl
      refine fun x dx hx hdx hne => ⟨x, dx, z, rfl, upd_same, rfl, ?_⟩
      rw [upd_upd]
      have sM := mkSame (C := ad.Reader) (fs := [("text", .str z), ("at", .int ((0 : Nat) : Int)), ("met", .int ((0 : Nat) : Int))]) hx hdx hne
      have ho : RdO ad (upd (upd H dx (.own x)) x (.ins ad.Reader dx [("text", .str z), ("at", .int ((0 : Nat) : Int)), ("met", .int ((0 : Nat) : Int))])) x dx z 0 0 := upd_same
      generalize (upd (upd H dx (.own x)) x (.ins ad.Reader dx [("text", .str z), ("at", .int ((0 : Nat) : Int)), ("met", .int ((0 : Nat) : Int))])) = H0 at sM ho ⊢
      have ra0 : RdA ad H0 x dx z (chs z) 0 := ⟨0, Nat.zero_le _, rfl, ho⟩
      obtain ⟨fs0, hp0, lk0⟩ := ra0.fields
      refine ⟨dx, fs0, hp0, lk0 _ (by decide +kernel) (by decide +kernel) (by decide +kernel), x, dx, z, chs z, 0, 1, 8, rfl, by decide, rfl, ra0, hz, ⟨fun y e u H1 b1 f1 ra1 => ?_, fun e H1 b1 => k2 (fun tm n z => nomatch e.symm.trans z) H1 (But.same sM hx b1)⟩⟩
      obtain ⟨fs1, hp1, lk1⟩ := ra1.fields
      refine ⟨dx, fs1, hp1, lk1 _ (by decide +kernel) (by decide +kernel) (by decide +kernel), x, dx, z, y.2.1, y.2.2, rfl, ra1, hz, _, rfl, ?_⟩
      cases ey : y.2.1 with
      | nil =>
        rw [if_neg (by decide)]
        exact k1 y.1 y.2.2 (by rw [e, ← ey]) u H1 (But.same sM hx b1) f1
      | cons c t =>
        rw [if_pos (show (c :: t).isEmpty = false from rfl)]
        refine ⟨by decide, k2 (fun tm n z => ?_) H1 (But.same sM hx b1)⟩
        have := Option.some.inj (e.symm.trans z)
        rw [this] at ey
        cases ey
theorem ok__law_cell_at {f : Addr} {fd : FuncData} (D : Def K mg "_law_cell_at" s__law_cell_at ["_law_script", "_law_k"] f fd) (T : Txt K mg ad) : FnOk P w K mg base CX0 1 f fd ["_law_script", "_law_k"] (sp__law_cell_at K) := by
  refine D.F.ok sc__law_cell_at (fun vs H Q E h => ?_) (fun cdv A outer s H vs Q E hr h => ?_)
  · obtain ⟨a, ns, k, rfl, _⟩ := h
    rfl
  · obtain ⟨a, ns, k, rfl, hS, q⟩ := h
    refine ⟨_, (@pss_cons _ _ _ _ _ (ps_if (pt_cmpR op_lt (pv 1) (pe_callB call_lenL rfl T.len PySem.boot_len (pa_cons (pv 0) pa_nil)) (nomark _))
      (@pss_one _ _ _ (ps_ret (pe_ix ix_list (pv 0) (pv 1) (fun _ _ => rfl))))
      pss_nil)
      (@pss_one _ _ _ (ps_ret (pe_op op_add (pe_op op_mul pe_int (pv 1)) pe_int)))), ?_⟩
    and_intros
    refine ⟨_, hS, ite2 (fun h1 => ?_) (fun h1 => ⟨.inl ⟨by decide, by decide⟩, q _⟩)⟩
    have h1 : k < ns.length := by rw [List.length_map] at h1; omega
    exact ⟨_, hS, _, atI_nat (by rw [List.getElem?_map, List.getElem?_eq_getElem h1]; rfl), q _⟩
theorem ok__law_names {f : Addr} {fd : FuncData} (D : Def K mg "_law_names" s__law_names ["_law_cell", "_law_many"] f fd) (T : Txt K mg ad) : FnOk P w K mg base CX0 1 f fd ["_law_cell", "_law_many"] sp__law_names := by
  refine D.F.ok sc__law_names (fun vs H Q E h => ?_) (fun cdv A outer s H vs Q E hr h => ?_)
  · obtain ⟨c, m, rfl, _⟩ := h
    rfl
  · obtain ⟨c, m, rfl, hm, k⟩ := h
    have hu := hr.units
    have hsz : ∀ {z : Str}, z.length ≤ 1000 → z.length ≤ sizeLine := fun h => Nat.le_of_lt (small1000 h)
    have go := fun j : Int => at_str (z := LET) (i := j) (m := 26) (by decide) (by decide +kernel)
    have allM : ∀ {ws : List Str}, (∀ z ∈ ws, markS z = true) → (ws.map V.str).all markV = true := fun {ws} h => List.all_eq_true.mpr fun x hx => by
      obtain ⟨z, hz, rfl⟩ := List.mem_map.mp hx
      exact h z hz
    have mk : ∀ {z : Str}, 1 ≤ z.length → z.length ≤ 8 → (∀ y ∈ z.cps.toList, y ∈ LET.cps.toList) → markS z = true := fun h1 h2 h3 => mark_of h1 h2 fun y hy => letC_iff.mpr (h3 y hy)
    refine ⟨_, (@pss_cons _ _ _ _ _ (ps_set (i := 2) sc__law_names.nd rfl (Or.inl rfl) pe_str)
      (@pss_cons _ _ _ _ _ (ps_set (i := 3) sc__law_names.nd rfl (Or.inl rfl) (pe_op op_add pe_int (pe_op op_mod (pv 0) pe_int)))
      (@pss_cons _ _ _ _ _ (ps_set (i := 4) sc__law_names.nd rfl (Or.inl rfl) (pe_op op_mod (pe_op op_fdiv (pv 0) pe_int) (pv 3)))
      (@pss_cons _ _ _ _ _ (ps_set (i := 5) sc__law_names.nd rfl (Or.inl rfl) (pe_lst pa_nil))
      (@pss_cons _ _ _ _ _ (ps_set (i := 6) sc__law_names.nd rfl (Or.inl rfl) (pe_op op_fdiv (pv 0) pe_int))
      (@pss_cons _ _ _ _ _ (ps_for PassesOwn.never rfl (pi_range1 rfl T.range (pa_cons (pe_op op_mul (pe_op op_mul (pv 1) (pe_op op_mod (pv 0) pe_int)) (pe_callTy call_int1 rfl T.int PyProof.Rows.boot_int (pa_cons (pe_cmpR op_gt (pv 0) (pe_op op_pow pe_int pe_int) (nomark _)) pa_nil))) pa_nil)) (pg_name (i := 7) sc__law_names.nd rfl (Or.inl rfl))
      (@pss_cons _ _ _ _ _ (ps_set (i := 8) sc__law_names.nd rfl (Or.inl rfl) (pe_ix ix_str (pv 2) (pe_op op_mod (pe_op op_fdiv (pv 6) pe_int) pe_int) (fun _ _ => rfl)))
      (@pss_cons _ _ _ _ _ (ps_set (i := 9) sc__law_names.nd rfl (Or.inl rfl) (pe_op op_mod (pv 6) pe_int))
      (@pss_cons _ _ _ _ _ (ps_set (i := 6) sc__law_names.nd rfl (Or.inl rfl) (pe_op op_fdiv (pv 6) pe_int))
      (@pss_cons _ _ _ _ _ (ps_for PassesOwn.never rfl (pi_range1 rfl T.range (pa_cons (pv 9) pa_nil)) (pg_name (i := 10) sc__law_names.nd rfl (Or.inl rfl))
      (@pss_cons _ _ _ _ _ (ps_set (i := 8) sc__law_names.nd rfl (Or.inl rfl) (pe_op op_add_str (pv 8) (pe_ix ix_str (pv 2) (pe_op op_mod (pv 6) pe_int) (fun _ _ => rfl))))
      (@pss_one _ _ _ (ps_set (i := 6) sc__law_names.nd rfl (Or.inl rfl) (pe_op op_fdiv (pv 6) pe_int)))))
      (@pss_one _ _ _ (ps_expr (pe_bm PySem.F.plainAttrs_list PySem.F.slot_list_append PySem.F.type_list_append mt_append (pv 5) (pa_cons (pv 8) pa_nil)))))))))
      (@pss_cons _ _ _ _ _ (ps_if (pt_cmpR (op_neD hu) (pv 5) (pe_lst pa_nil) (nomark _))
      (@pss_one _ _ _ (ps_ret (pv 5)))
      pss_nil)
      (@pss_cons _ _ _ _ _ (ps_for PassesOwn.never rfl (pi_range1 rfl T.range (pa_cons (pv 1) pa_nil)) (pg_name (i := 7) sc__law_names.nd rfl (Or.inl rfl))
      (@pss_cons _ _ _ _ _ (ps_set (i := 8) sc__law_names.nd rfl (Or.inl rfl) pe_str)
      (@pss_cons _ _ _ _ _ (ps_for PassesOwn.never rfl (pi_range1 rfl T.range (pa_cons (pv 3) pa_nil)) (pg_name (i := 10) sc__law_names.nd rfl (Or.inl rfl))
      (@pss_cons _ _ _ _ _ (ps_set (i := 11) sc__law_names.nd rfl (Or.inl rfl) (pe_op op_add (pe_op op_fdiv (pv 0) (pe_op op_add pe_int (pe_op op_mul pe_int (pv 10)))) (pe_op op_mul (pv 10) (pv 10))))
      (@pss_cons _ _ _ _ _ (ps_if (pt_cmpR op_eq (pv 10) (pv 4) (nomark _))
      (@pss_one _ _ _ (ps_set (i := 11) sc__law_names.nd rfl (Or.inl rfl) (pe_op op_add (pv 11) (pv 7))))
      pss_nil)
      (@pss_one _ _ _ (ps_set (i := 8) sc__law_names.nd rfl (Or.inl rfl) (pe_op op_add_str (pv 8) (pe_ix ix_str (pv 2) (pe_op op_mod (pv 11) pe_int) (fun _ _ => rfl))))))))
      (@pss_one _ _ _ (ps_expr (pe_bm PySem.F.plainAttrs_list PySem.F.slot_list_append PySem.F.type_list_append mt_append (pv 5) (pa_cons (pv 8) pa_nil)))))))
      (@pss_one _ _ _ (ps_ret (pv 5))))))))))), ?_⟩
    refine tseq_open fun B hB => ?_
    and_intros
    subst hB
    refine tseq_open fun B hB => ?_
    and_intros
    have s0' := Int.emod_nonneg c (show (8 : Int) ≠ 0 by decide)
    have s8' := Int.emod_lt_of_pos c (show (0 : Int) < 8 by decide)
    obtain ⟨sz, esz⟩ := Int.eq_ofNat_of_zero_le (show 0 ≤ 1 + c % 8 by omega)
    rw [esz]
    have z1 : 1 ≤ sz := by omega
    have z8 : sz ≤ 8 := by omega
    subst hB
    refine tseq_open fun B hB => ?_
    and_intros
    refine ⟨by omega, ?_⟩
    generalize c / 8 % (sz : Int) = ea
    subst hB
    refine tseq_open fun B hB => ?_
    and_intros
    refine ⟨by decide, fun l hl => ?_⟩
    have s0 := Same.put (o := .lst []) hl
    have f0 : (upd H l (.lst [])) l = some (.lst []) := upd_same
    generalize (upd H l (.lst [])) = H0 at s0 f0 ⊢
    subst hB
    refine tseq_open fun B hB => ?_
    and_intros
    subst hB
    refine tseq_open fun B hB => ?_
    have c0 := Int.emod_nonneg c (show (2 : Int) ≠ 0 by decide)
    have c2 := Int.emod_lt_of_pos c (show (0 : Int) < 2 by decide)
    obtain ⟨cp, ecp⟩ := Int.eq_ofNat_of_zero_le c0
    obtain ⟨n1, en1, hn1⟩ : ∃ n1 : Nat, (m : Int) * (c % 2) * (if (10 : Int) ^ Int.toNat 9 < c then 1 else 0) = (n1 : Int) ∧ (n1 = 0 ∨ n1 = m) := by
      rcases (show c % 2 = 0 ∨ c % 2 = 1 by omega) with h | h
      · exact ⟨0, by rw [h]; simp, .inl rfl⟩
      · by_cases h2 : (10 : Int) ^ Int.toNat 9 < c
        · exact ⟨m, by rw [h, if_pos h2]; simp, .inr rfl⟩
        · exact ⟨0, by rw [h, if_neg h2]; simp, .inl rfl⟩
    refine (show tFor _ _ _ _ _ _ from ?_)
    refine (show iRng1 _ _ _ _ from ?_)
    refine split_it (fun J H1 => J = Itr 0 n1 ∧ H1 = H0) (fun G hG => ?_) ?_
    · and_intros
      refine ⟨.inl ⟨by omega, by omega⟩, ⟨by decide, by decide, by decide⟩, .inr ⟨.inr ⟨by split <;> decide, by split <;> decide⟩, ?_⟩⟩
      rw [en1]
      exact ⟨by omega, by omega, hG _ _ ⟨by rw [Int.toNat_natCast], rfl⟩⟩
    rintro J H1 ⟨rfl, rfl⟩
    refine for_range (n := n1) (fun i σ H' => Same H H' ∧ ∃ ws : List Str, H' l = some (.lst (ws.map V.str)) ∧ ws.length = i ∧ (∀ z ∈ ws, markS z = true) ∧ ∃ (rest : Int) (o7 o8 o9 o10 : Option V), StIs σ [some (.int c), some (.int m), some (.str LET), some (.int sz), some (.int ea), some (.ref l), some (.int rest), o7, o8, o9, o10, none]) ⟨s0, [], f0, rfl, (fun _ z => nomatch z), _, none, none, none, none, StIs.rfl⟩ ?_ ?_
    · rintro i σ H' hi ⟨s1, ws, hl', hw, hws, rest, o7, o8, o9, o10, rfl⟩
      refine tseq_open fun B hB => ?_
      and_intros
      obtain ⟨x, hx, ex⟩ := go (rest / 8)
      refine ⟨hsz (by decide +kernel), x, ex, ?_⟩
      subst hB
      refine tseq_open fun B hB => ?_
      and_intros
      obtain ⟨mo, emo⟩ := Int.eq_ofNat_of_zero_le (Int.emod_nonneg rest (show (8 : Int) ≠ 0 by decide))
      have mo8 := Int.emod_lt_of_pos rest (show (0 : Int) < 8 by decide)
      rw [emo]
      subst hB
      refine tseq_open fun B hB => ?_
      and_intros
      generalize rest / 208 = rest1
      subst hB
      refine tseq_open fun B hB => ?_
      refine ⟨_, rfl, mo, rfl, by omega, by omega, ?_⟩
      rw [Int.toNat_natCast]
      refine for_range (n := mo) (fun j σ H2 => H2 = H' ∧ ∃ w : Str, w.length = j + 1 ∧ (∀ y ∈ w.cps.toList, y ∈ LET.cps.toList) ∧ ∃ (rest : Int) (o10 : Option V), StIs σ [some (.int c), some (.int m), some (.str LET), some (.int sz), some (.int ea), some (.ref l), some (.int rest), some (.int (0 + (i : Int))), some (.str w), some (.int mo), o10, none]) ⟨rfl, ⟨#[x]⟩, rfl, ?_, _, _, StIs.rfl⟩ ?_ ?_
      · intro y hy
        rw [show y = x by simpa using hy]
        exact hx
      · rintro j σ H2 hj ⟨rfl, w, hwl, hwc, rest2, o10', rfl⟩
        and_intros
        obtain ⟨x2, hx2, ex2⟩ := go rest2
        refine ⟨hsz (by decide +kernel), x2, ex2, ?_, w ++ ⟨#[x2]⟩, ?_, fun y hy => ?_, _, _, StIs.rfl⟩
        · rw [one_len]; exact Nat.le_of_lt (small1000 (by omega))
        · rw [Str.length_append, one_len, hwl]
        · rw [app_list, List.mem_append] at hy
          rcases hy with h | h
          · exact hwc y h
          · rw [show y = x2 by simpa using h]; exact hx2
      rintro σ H2 ⟨rfl, w, hwl, hwc, rest2, o10', rfl⟩
      dsimp only
      subst hB
      and_intros
      refine ⟨.inl ⟨rfl, _, SqL.of hl'⟩, _, hl', by rw [List.length_map]; exact small1000 (by omega), same_ne s1 hl, ws ++ [w], by rw [upd_same, List.map_append]; rfl, by rw [List.length_append, hw]; rfl, fun y hy' => ?_, _, _, _, _, _, StIs.rfl⟩
      rcases List.mem_append.mp hy' with h | h
      · exact hws y h
      · rw [List.mem_singleton.mp h]; exact mk (by omega) (by omega) hwc
    rintro σ H' ⟨s1, ws, hl', hw, hws, rest, o7, o8, o9, o10, rfl⟩
    dsimp only
    subst hB
    refine tseq_open fun B hB => ?_
    and_intros
    refine ⟨by decide, fun e he => ?_⟩
    have se := Same.put (o := .lst []) he
    have fe : (upd H' e (.lst [])) e = some (.lst []) := upd_same
    generalize (upd H' e (.lst [])) = H5 at se fe ⊢
    have hl5 := se _ _ hl'
    have am := allM hws
    have cm := canLay_marks am
    have dm := depth_marks (ws.map V.str)
    refine ⟨_, _, .lst (SqL.of hl5) (datVs_marks am), .lst (SqL.of fe) .nil, ?_, rfl, ?_⟩
    · unfold SeqAt.shaped
      rw [Bool.and_eq_true]
      refine ⟨by simp only [PyData.canLay0]; exact cm, decide_eq_true ?_⟩
      simp only [PyData.depth]
      omega
    cases ws with
    | cons z r =>
      have nz : n1 = m := by
        rw [List.length_cons] at hw
        rcases hn1 with h | h
        · omega
        · exact h
      refine ⟨true, rfl, ?_⟩
      rw [if_pos rfl]
      exact k (z :: r) l H5 (by rw [hw]; exact nz) hws (s1.trans se) hl5
    | nil =>
      refine ⟨false, rfl, ?_⟩
      rw [if_neg (by decide)]
      have s5 := s1.trans se
      subst hB
      refine tseq_open fun B hB => ?_
      refine ⟨_, rfl, m, rfl, by omega, by omega, ?_⟩
      rw [Int.toNat_natCast]
      refine for_range (n := m) (fun i σ H' => Same H H' ∧ ∃ ws : List Str, H' l = some (.lst (ws.map V.str)) ∧ ws.length = i ∧ (∀ z ∈ ws, markS z = true) ∧ ∃ o7 o8 o10 o11 : Option V, StIs σ [some (.int c), some (.int m), some (.str LET), some (.int sz), some (.int ea), some (.ref l), some (.int rest), o7, o8, o9, o10, o11]) ⟨s5, [], hl5, rfl, (fun _ z => nomatch z), _, _, _, _, StIs.rfl⟩ ?_ ?_
      · rintro i σ H' hi ⟨s1, ws, hl', hw, hws, o7, o8, o10, o11, rfl⟩
        refine tseq_open fun B2 hB2 => ?_
        and_intros
        subst hB2
        refine tseq_open fun B2 hB2 => ?_
        refine ⟨_, rfl, sz, rfl, by omega, by omega, ?_⟩
        rw [Int.toNat_natCast]
        refine for_range (n := sz) (fun j σ H2 => H2 = H' ∧ ∃ w : Str, w.length = j ∧ (∀ y ∈ w.cps.toList, y ∈ LET.cps.toList) ∧ ∃ o10 o11 : Option V, StIs σ [some (.int c), some (.int m), some (.str LET), some (.int sz), some (.int ea), some (.ref l), some (.int rest), some (.int (0 + (i : Int))), some (.str w), o9, o10, o11]) ⟨rfl, Str.empty, rfl, (fun _ z => nomatch z), _, _, StIs.rfl⟩ ?_ ?_
        · rintro j σ H2 hj ⟨rfl, w, hwl, hwc, o10', o11', rfl⟩
          refine tseq_open fun B3 hB3 => ?_
          and_intros
          refine ⟨.inl ⟨by decide, by decide⟩, by omega, by omega, .inl ⟨by omega, by omega⟩, ?_⟩
          generalize c / (64 + 3 * (0 + (j : Int))) + (0 + (j : Int)) * (0 + (j : Int)) = pl
          subst hB3
          refine tseq_open fun B3 hB3 => ?_
          and_intros
          refine ite2 (fun _ => ?_) fun _ => ?_
          · subst hB3
            and_intros
            obtain ⟨x2, hx2, ex2⟩ := go (pl + (0 + (i : Int)))
            refine ⟨hsz (by decide +kernel), x2, ex2, ?_, w ++ ⟨#[x2]⟩, ?_, fun y hy => ?_, _, _, StIs.rfl⟩
            · rw [one_len]; exact Nat.le_of_lt (small1000 (by omega))
            · rw [Str.length_append, one_len, hwl]
            · rw [app_list, List.mem_append] at hy
              rcases hy with h | h
              · exact hwc y h
              · rw [show y = x2 by simpa using h]; exact hx2
          · subst hB3
            and_intros
            obtain ⟨x2, hx2, ex2⟩ := go pl
            refine ⟨hsz (by decide +kernel), x2, ex2, ?_, w ++ ⟨#[x2]⟩, ?_, fun y hy => ?_, _, _, StIs.rfl⟩
            · rw [one_len]; exact Nat.le_of_lt (small1000 (by omega))
            · rw [Str.length_append, one_len, hwl]
            · rw [app_list, List.mem_append] at hy
              rcases hy with h | h
              · exact hwc y h
              · rw [show y = x2 by simpa using h]; exact hx2
        rintro σ H2 ⟨rfl, w, hwl, hwc, o10', o11', rfl⟩
        dsimp only
        subst hB2
        and_intros
        refine ⟨.inl ⟨rfl, _, SqL.of hl'⟩, _, hl', by rw [List.length_map]; exact small1000 (by omega), same_ne s1 hl, ws ++ [w], by rw [upd_same, List.map_append]; rfl, by rw [List.length_append, hw]; rfl, fun y hy' => ?_, _, _, _, _, StIs.rfl⟩
        rcases List.mem_append.mp hy' with h | h
        · exact hws y h
        · rw [List.mem_singleton.mp h]; exact mk (by omega) (by omega) hwc
      rintro σ H' ⟨s1, ws, hl', hw, hws, o7, o8, o10, o11, rfl⟩
      dsimp only
      subst hB
      and_intros
      exact k ws l H' hw hws s1 hl'
theorem ok__law_leaf {f : Addr} {fd : FuncData} (D : Def K mg "_law_leaf" s__law_leaf ["_law_cell", "_law_names_here"] f fd) (T : Txt K mg ad) : FnOk P w K mg base CX0 1 f fd ["_law_cell", "_law_names_here"] sp__law_leaf := by
  refine D.F.ok sc__law_leaf (fun vs H Q E h => ?_) (fun cdv A outer s H vs Q E hr h => ?_)
  · obtain ⟨c, nl, zs, rfl, _⟩ := h
    rfl
  · obtain ⟨c, nl, zs, rfl, hnl, z1, z20, hz, k⟩ := h
    refine ⟨_, (@pss_cons _ _ _ _ _ (ps_set (i := 2) sc__law_leaf.nd rfl (Or.inl rfl) (pe_ix ix_list (pv 1) (pe_op op_mod (pe_op op_fdiv (pv 0) pe_int) (pe_callB call_lenL rfl T.len PySem.boot_len (pa_cons (pv 1) pa_nil))) (fun _ _ => rfl)))
      (@pss_cons _ _ _ _ _ (ps_set (i := 3) sc__law_leaf.nd rfl (Or.inl rfl) (pe_ix ix_list (pv 1) (pe_op op_mod (pe_op op_fdiv (pv 0) (pe_op op_mul pe_int (pe_callB call_lenL rfl T.len PySem.boot_len (pa_cons (pv 1) pa_nil)))) (pe_callB call_lenL rfl T.len PySem.boot_len (pa_cons (pv 1) pa_nil))) (fun _ _ => rfl)))
      (@pss_cons _ _ _ _ _ (ps_set (i := 4) sc__law_leaf.nd rfl (Or.inl rfl) (pe_ix ix_list (pe_lst (pa_cons pe_str (pa_cons pe_str (pa_cons pe_str (pa_cons pe_str (pa_cons pe_str (pa_cons pe_str (pa_cons pe_str (pa_cons pe_str pa_nil))))))))) (pe_op op_mod (pv 0) pe_int) (fun _ _ => rfl)))
      (@pss_cons _ _ _ _ _ (ps_if (pt_cmpR op_eq (pv 4) pe_str (nomark _))
      (@pss_one _ _ _ (ps_ret (pe_tup (pa_cons pe_str (pa_cons (pv 2) pa_nil)))))
      pss_nil)
      (@pss_cons _ _ _ _ _ (ps_if (pt_cmpR op_eq (pv 4) pe_str (nomark _))
      (@pss_one _ _ _ (ps_ret (pe_tup (pa_cons pe_str (pa_cons (pe_op op_add pe_int (pe_op op_mod (pe_op op_fdiv (pv 0) (pe_op op_mul pe_int (pe_callB call_lenL rfl T.len PySem.boot_len (pa_cons (pv 1) pa_nil)))) pe_int)) (pa_cons (pv 2) pa_nil))))))
      pss_nil)
      (@pss_one _ _ _ (ps_ret (pe_tup (pa_cons (pv 4) (pa_cons (pv 2) (pa_cons (pv 3) pa_nil))))))))))), ?_⟩
    have pick : ∀ i : Int, ∃ z, markS z = true ∧ atI (zs.map V.str) (i % (zs.length : Int)) = some (.str z) := fun i => by
      obtain ⟨v, hv, _, e⟩ := atI_mod (xs := zs.map V.str) (i := i) (m := (zs.length : Int)) (by omega) (by rw [List.length_map]; exact Int.le_refl _)
      obtain ⟨z, hz', rfl⟩ := List.mem_map.mp hv
      exact ⟨z, hz z hz', e⟩
    have lz : (((zs.map V.str).length : Nat) : Int) = (zs.length : Int) := by rw [List.length_map]
    refine tseq_open fun B hB => ?_
    and_intros
    obtain ⟨z1', hm1, e1⟩ := pick (c / 8)
    refine ⟨_, SqL.of hnl, by rw [lz]; omega, _, SqL.of hnl, _, by rw [lz]; exact e1, ?_⟩
    subst hB
    refine tseq_open fun B hB => ?_
    and_intros
    obtain ⟨z2', hm2, e2⟩ := pick (c / (8 * (zs.length : Int)))
    refine ⟨_, SqL.of hnl, .inl ⟨by decide, by decide⟩, by rw [lz]; omega, by rw [lz]; omega, _, SqL.of hnl, by rw [lz]; omega, _, SqL.of hnl, _, by rw [lz]; exact e2, ?_⟩
    subst hB
    refine tseq_open fun B hB => ?_
    and_intros
    refine ⟨by decide, fun p hp => ?_⟩
    obtain ⟨v, hv, _, e⟩ := atI_mod (xs := ([.str "has", .str "many", .str "before", .str "under", .str "beside", .str "has", .str "before", .str "under"] : List V)) (i := c) (m := 8) (by decide) (by decide)
    refine ⟨_, SqL.of upd_same, v, e, ?_⟩
    have hv' : v = .str "has" ∨ v = .str "many" ∨ ∃ w, v = .str w ∧ pairW w := by
      simp only [List.mem_cons, List.not_mem_nil, or_false] at hv
      rcases hv with rfl | rfl | rfl | rfl | rfl | rfl | rfl | rfl
      · exact .inl rfl
      · exact .inr (.inl rfl)
      · exact .inr (.inr ⟨_, rfl, .inl rfl⟩)
      · exact .inr (.inr ⟨_, rfl, .inr (.inl rfl)⟩)
      · exact .inr (.inr ⟨_, rfl, .inr (.inr rfl)⟩)
      · exact .inl rfl
      · exact .inr (.inr ⟨_, rfl, .inl rfl⟩)
      · exact .inr (.inr ⟨_, rfl, .inr (.inl rfl)⟩)
    clear hv e
    have s1 := Same.put (o := .lst [.str "has", .str "many", .str "before", .str "under", .str "beside", .str "has", .str "before", .str "under"]) hp
    generalize (upd H p (.lst [.str "has", .str "many", .str "before", .str "under", .str "beside", .str "has", .str "before", .str "under"])) = H1 at s1 ⊢
    have hnl1 := s1 _ _ hnl
    subst hB
    rcases hv' with rfl | rfl | ⟨w, rfl, hw⟩
    · and_intros
      refine ⟨by decide, fun q hq => k (.ref q) (.has z1') _ (s1.upd hq) (by unfold TmAt; exact ⟨q, rfl, upd_same⟩) (by unfold rdT; exact hm1) (by unfold szT; rfl) (by unfold dpT; rfl)⟩
    · and_intros
      rw [if_neg (by decide +kernel)]
      exact ⟨_, SqL.of hnl1, .inl ⟨by decide, by decide⟩, by rw [lz]; omega, by rw [lz]; omega, by decide, fun p hp => k (.ref p) (.many _ z1') _ (s1.upd hp) (by unfold TmAt; exact ⟨p, rfl, upd_same⟩) (by unfold rdT; exact ⟨num13 _, hm1⟩) (by unfold szT; rfl) (by unfold dpT; rfl)⟩
    · have n1 : ¬ w = "has" := by rcases hw with rfl | rfl | rfl <;> decide +kernel
      have n2 : ¬ w = "many" := by rcases hw with rfl | rfl | rfl <;> decide +kernel
      and_intros
      rw [if_neg n1, if_neg n2]
      exact ⟨by decide, fun q hq => k (.ref q) (.pair w z1' z2') _ (s1.upd hq) (by unfold TmAt; exact ⟨q, rfl, upd_same⟩) (by unfold rdT; exact ⟨hw, hm1, hm2⟩) (by unfold szT; rfl) (by unfold dpT; rfl)⟩
theorem ok__law_term {f : Addr} {fd : FuncData} (D : Def K mg "_law_term" s__law_term ["_law_script", "_law_begin", "_law_many", "_law_names_here"] f fd) (T : Txt K mg ad) {f__law_leaf : Addr} {fd__law_leaf : FuncData} (G__law_leaf : FnOk P w K mg base CX0 1 f__law_leaf fd__law_leaf ["_law_cell", "_law_names_here"] sp__law_leaf) {f__law_cell_at : Addr} {fd__law_cell_at : FuncData} (G__law_cell_at : FnOk P w K mg base CX0 1 f__law_cell_at fd__law_cell_at ["_law_script", "_law_k"] (sp__law_cell_at K)) (D__law_leaf : Def K mg "_law_leaf" s__law_leaf ["_law_cell", "_law_names_here"] f__law_leaf fd__law_leaf) (D__law_cell_at : Def K mg "_law_cell_at" s__law_cell_at ["_law_script", "_law_k"] f__law_cell_at fd__law_cell_at) : FnOk P w K mg base CX0 2 f fd ["_law_script", "_law_begin", "_law_many", "_law_names_here"] (sp__law_term K) := by
  refine D.F.ok sc__law_term (fun vs H Q E h => ?_) (fun cdv A outer s H vs Q E hr h => ?_)
  · obtain ⟨a, nl, ns, b, m, zs, rfl, _⟩ := h
    rfl
  · obtain ⟨a, nl, ns, b, m, zs, rfl, hS, m1, m7, hnl, z1, z20, hz, k⟩ := h
    refine ⟨_, (@pss_cons _ _ _ _ _ (ps_set (i := 4) sc__law_term.nd rfl (Or.inl rfl) (pe_lst (pa_cons (pe_call G__law_leaf (hr.mono (by decide)) rfl D__law_leaf.mg D__law_leaf.F.kp D__law_leaf.b .nil pass0 (pa_cons (pe_call G__law_cell_at (hr.mono (by decide)) rfl D__law_cell_at.mg D__law_cell_at.F.kp D__law_cell_at.b .nil pass0 (pa_cons (pv 0) (pa_cons (pv 1) pa_nil))) (pa_cons (pv 3) pa_nil))) pa_nil)))
      (@pss_cons _ _ _ _ _ (ps_for PassesOwn.never rfl (pi_range2 rfl T.range (pa_cons pe_int (pa_cons (pv 2) pa_nil))) (pg_name (i := 5) sc__law_term.nd rfl (Or.inl rfl))
      (@pss_cons _ _ _ _ _ (ps_set (i := 6) sc__law_term.nd rfl (Or.inl rfl) (pe_call G__law_cell_at (hr.mono (by decide)) rfl D__law_cell_at.mg D__law_cell_at.F.kp D__law_cell_at.b .nil pass0 (pa_cons (pv 0) (pa_cons (pe_op op_add (pv 1) (pv 5)) pa_nil))))
      (@pss_cons _ _ _ _ _ (ps_set (i := 7) sc__law_term.nd rfl (Or.inl rfl) (pe_op op_mod (pv 6) pe_int))
      (@pss_one _ _ _ (ps_if (pt_cmpR op_eq (pv 7) pe_int (nomark _))
      (@pss_one _ _ _ (ps_expr (pe_bm PySem.F.plainAttrs_list PySem.F.slot_list_append PySem.F.type_list_append mt_append (pv 4) (pa_cons (pe_tup (pa_cons pe_str (pa_cons (pe_bm0 PySem.F.plainAttrs_list PySem.F.slot_list_pop PySem.F.type_list_pop mt_pop (pv 4)) pa_nil))) pa_nil))))
      (@pss_one _ _ _ (ps_if (PW.pt (pw_and (pt_cmpR op_gt (pv 7) pe_int (nomark _)) (pw_and1 (pt_cmpR op_gt (pe_callB call_lenL rfl T.len PySem.boot_len (pa_cons (pv 4) pa_nil)) pe_int (nomark _)))))
      (@pss_cons _ _ _ _ _ (ps_set (i := 8) sc__law_term.nd rfl (Or.inl rfl) (pe_op op_add pe_int (pe_op op_mod (pe_op op_fdiv (pv 6) pe_int) (pe_op op_sub (pe_callB (call_min2 rfl) rfl T.min (by decide +kernel) (pa_cons pe_int (pa_cons (pe_callB call_lenL rfl T.len PySem.boot_len (pa_cons (pv 4) pa_nil)) pa_nil))) pe_int))))
      (@pss_one _ _ _ (ps_set (i := 4) sc__law_term.nd rfl (Or.inl rfl) (pe_op op_cat (pe_slice sl_list (pv 4) po_none (po_some (pe_un un_neg (pv 8)))) (pe_lst (pa_cons (pe_op op_catT (pe_tup (pa_cons (pe_ix ix_list (pe_lst (pa_cons pe_str (pa_cons pe_str pa_nil))) (pe_op op_sub (pv 7) pe_int) (fun _ _ => rfl)) pa_nil)) (pe_callTy call_tupL rfl T.tuple PyProof.Rows.boot_tuple (pa_cons (pe_slice sl_list (pv 4) (po_some (pe_un un_neg (pv 8))) po_none) pa_nil))) pa_nil))))))
      (@pss_one _ _ _ (ps_expr (pe_bm PySem.F.plainAttrs_list PySem.F.slot_list_append PySem.F.type_list_append mt_append (pv 4) (pa_cons (pe_call G__law_leaf (hr.mono (by decide)) rfl D__law_leaf.mg D__law_leaf.F.kp D__law_leaf.b .nil pass0 (pa_cons (pe_op op_fdiv (pv 6) pe_int) (pa_cons (pv 3) pa_nil))) pa_nil)))))))))))
      (@pss_cons _ _ _ _ _ (ps_while PassesOwn.never (pt_cmpR op_gt (pe_callB call_lenL rfl T.len PySem.boot_len (pa_cons (pv 4) pa_nil)) pe_int (nomark _))
      (@pss_cons _ _ _ _ _ (ps_set (i := 8) sc__law_term.nd rfl (Or.inl rfl) (pe_callB (call_min2 rfl) rfl T.min (by decide +kernel) (pa_cons pe_int (pa_cons (pe_callB call_lenL rfl T.len PySem.boot_len (pa_cons (pv 4) pa_nil)) pa_nil))))
      (@pss_one _ _ _ (ps_set (i := 4) sc__law_term.nd rfl (Or.inl rfl) (pe_op op_cat (pe_slice sl_list (pv 4) po_none (po_some (pe_un un_neg (pv 8)))) (pe_lst (pa_cons (pe_op op_catT (pe_tup (pa_cons (pe_ix ix_list (pe_lst (pa_cons pe_str (pa_cons pe_str pa_nil))) (pe_op op_mod (pe_op op_fdiv (pe_call G__law_cell_at (hr.mono (by decide)) rfl D__law_cell_at.mg D__law_cell_at.F.kp D__law_cell_at.b .nil pass0 (pa_cons (pv 0) (pa_cons (pv 1) pa_nil))) pe_int) pe_int) (fun _ _ => rfl)) pa_nil)) (pe_callTy call_tupL rfl T.tuple PyProof.Rows.boot_tuple (pa_cons (pe_slice sl_list (pv 4) (po_some (pe_un un_neg (pv 8))) po_none) pa_nil))) pa_nil)))))))
      (@pss_one _ _ _ (ps_ret (pe_ix ix_list (pv 4) pe_int (fun _ _ => rfl))))))), ?_⟩
    refine tseq_open fun B hB => ?_
    and_intros
    refine ⟨a, ns, b, rfl, hS, fun c0 => ⟨c0, nl, zs, rfl, hnl, z1, z20, hz, fun v tm H1 s1 ht ok dp dq => ⟨by decide, fun p hp => ?_⟩⟩⟩
    have s2 := Same.put (o := .lst [v]) hp
    have f2 : (upd H1 p (.lst [v])) p = some (.lst [v]) := upd_same
    generalize (upd H1 p (.lst [v])) = H2 at s2 f2 ⊢
    have hp0 : H p = none := Same.free s1 hp
    have s12 := s1.trans s2
    have ht2 := ht.same s2
    subst hB
    refine tseq_open fun B hB => ?_
    refine (show tFor _ _ _ _ _ _ from ?_)
    refine (show iRng2 _ _ _ _ from ?_)
    refine split_it (fun J H3 => H3 = H2 ∧ J = Itr 1 (m - 1)) (fun G hG => ?_) ?_
    · and_intros
      have := hG _ _ ⟨rfl, rfl⟩
      refine ⟨by decide, by decide, by omega, by omega, ?_⟩
      rw [show ((m : Int) - 1).toNat = m - 1 by omega]
      exact this
    rintro _ H3 ⟨hH3, rfl⟩
    subst hH3
    refine for_range (n := m - 1) (fun i σ H' => Same H H' ∧ ∃ (p : Addr) (vs : List V) (tms : List Tm), H p = none ∧ H' p = some (.lst vs) ∧ TmsAt H' vs tms ∧ rdL tms ∧ szL tms ≤ i + 1 ∧ dpL tms + vs.length ≤ i + 1 ∧ 1 ≤ vs.length ∧ vs.length ≤ i + 1 ∧ ∃ o5 o6 o7 o8 : Option V, StIs σ [some (.ref a), some (.int b), some (.int m), some (.ref nl), some (.ref p), o5, o6, o7, o8]) ⟨s12, p, [v], [tm], hp0, f2, by unfold TmsAt; exact ⟨ht2, by unfold TmsAt; trivial⟩, rdL_of (fun q hq => by rw [List.mem_singleton.mp hq]; exact ok), (by rw [szL_one]; omega), (Nat.add_le_add (dpL_le (fun q hq => by rw [List.mem_singleton.mp hq]; omega)) (Nat.le_refl 1)), Nat.le_refl _, Nat.le_refl _, none, none, none, none, StIs.rfl⟩ ?_ ?_
    · rintro i σ H' hi ⟨s3, p, vs, tms, hp0, hp, htm, ok, dp, dq, l1, li, o5, o6, o7, o8, rfl⟩
      refine tseq_open fun B2 hB2 => ?_
      and_intros
      refine ⟨a, ns, b + (1 + i), by rw [show ((b : Int) + (1 + (i : Int))) = ((b + (1 + i) : Nat) : Int) by omega], hS.same s3, fun c => ?_⟩
      subst hB2
      refine tseq_open fun B2 hB2 => ?_
      and_intros
      have e0 := Int.emod_nonneg c (show (6 : Int) ≠ 0 by decide)
      have e6 := Int.emod_lt_of_pos c (show (0 : Int) < 6 by decide)
      generalize c % 6 = wy at e0 e6 ⊢
      subst hB2
      refine tIfS_open (fun b H1 => H1 = H' ∧ b = decide (wy = 5)) (fun G hG => ?_) (fun H1 ⟨eH, e5⟩ => ?_) (fun H1 ⟨eH, e5⟩ => ?_)
      · and_intros
        exact hG _ _ ⟨rfl, rfl⟩
      · rw [eH]
        and_intros
        obtain ⟨v, ev⟩ : ∃ v, vs[vs.length - 1]? = some v := ⟨_, List.getElem?_eq_getElem (by omega)⟩
        obtain ⟨pm, hpm, hv⟩ := htm.get ev
        have hmem := List.mem_of_getElem? hpm
        have dmem := dpL_mem hmem
        refine ⟨.inl ⟨rfl, _, SqL.of hp⟩, .inl ⟨rfl, _, SqL.of hp⟩, vs, hp, v, ev, by decide, fun q hq => ?_⟩
        have tup1 := lst_tups (o := .lst vs.dropLast) hp
        have sK : Same H (upd H' p (.lst vs.dropLast)) := same_ne s3 hp0
        have kp : (upd H' p (.lst vs.dropLast)) p = some (.lst vs.dropLast) := upd_same
        generalize (upd H' p (.lst vs.dropLast)) = K1 at tup1 sK kp hq ⊢
        have t2 := Same.put (o := .tup [.str "not", v]) hq
        have g2 : (upd K1 q (.tup [.str "not", v])) q = some (.tup [.str "not", v]) := upd_same
        generalize (upd K1 q (.tup [.str "not", v])) = K2 at t2 g2 ⊢
        have tA : ∀ b ys, H' b = some (.tup ys) → K2 b = some (.tup ys) := fun b ys e => t2 _ _ (tup1 b ys e)
        obtain ⟨tms', htm', ok', dp', dq'⟩ := stack_not (w := .ref q) htm ok l1 hpm tA (by unfold TmAt; exact ⟨q, v, rfl, g2, hv.tups tA⟩)
        have lv : (vs.dropLast ++ [V.ref q]).length = vs.length := by
          rw [List.length_append, List.length_dropLast]
          simp only [List.length_cons, List.length_nil]
          omega
        exact ⟨_, t2 _ _ kp, small1000 (by rw [List.length_dropLast]; omega), same_ne (sK.trans t2) hp0, p, hp0, _, upd_same, tms', htm'.tups (lst_tups (t2 _ _ kp)), ok', by omega, by omega, by omega, by omega, _, _, _, _, StIs.rfl⟩
      · rw [eH]
        refine tIfS_open (fun b H1 => H1 = H' ∧ (b = true → 2 < wy ∧ 1 < vs.length)) (fun G hG => ?_) (fun H1 ⟨eH, e2⟩ => ?_) (fun H1 ⟨eH, e2⟩ => ?_)
        · and_intros
          exact ite2 (fun h => ⟨_, SqL.of hp, hG _ _ ⟨rfl, fun h2 => ⟨h, by have := of_decide_eq_true h2; omega⟩⟩⟩) fun h => hG _ _ ⟨rfl, fun h2 => nomatch h2⟩
        · rw [eH]
          obtain ⟨w2, v1⟩ := e2 rfl
          have w5 : ¬ wy = 5 := of_decide_eq_false e5.symm
          refine tseq_open fun B2 hB2 => ?_
          and_intros
          refine ⟨_, SqL.of hp, by split <;> omega, ?_⟩
          obtain ⟨sz, esz, z2, z6, zl⟩ : ∃ sz : Nat, 2 + c / 6 % ((if (vs.length : Int) < 6 then (vs.length : Int) else 6) - 1) = (sz : Int) ∧ 2 ≤ sz ∧ sz ≤ 6 ∧ sz ≤ vs.length := by
            have q0 := Int.emod_nonneg (c / 6) (show (if (vs.length : Int) < 6 then (vs.length : Int) else 6) - 1 ≠ 0 by split <;> omega)
            have q1 := Int.emod_lt_of_pos (c / 6) (show 0 < (if (vs.length : Int) < 6 then (vs.length : Int) else 6) - 1 by split <;> omega)
            generalize c / 6 % ((if (vs.length : Int) < 6 then (vs.length : Int) else 6) - 1) = u at q0 q1 ⊢
            refine ⟨(2 + u).toNat, by omega, by omega, ?_, ?_⟩
            · split at q1 <;> omega
            · split at q1 <;> omega
          rw [esz]
          subst hB2
          obtain ⟨bb, ebb⟩ : ∃ bb, atI ([.str "all", .str "any"] : List V) (wy - 3) = some (.str (wJ bb)) := by
            rcases (show wy = 3 ∨ wy = 4 by omega) with h | h
            · rw [h]; exact ⟨true, rfl⟩
            · rw [h]; exact ⟨false, rfl⟩
          refine fold_read (K := K) hp (by omega) zl (by omega) (fun J R sJ r => ?_) (fun bb q6 q8 J8 t18 n8 g6 g8 => ?_)
          · and_intros
            exact ⟨by decide, fun q2 h2 => ⟨_, SqL.of upd_same, .str (wJ bb), ebb, r bb _ (Same.put h2)⟩⟩
          obtain ⟨tms', htm', ok', dp', dq'⟩ := stack_fold (b := bb) (q := q6) (n := sz) (htm.same t18) (by omega) (by omega) (by omega) ok g6
          have l8 : (vs.take (vs.length - sz) ++ [V.ref q6]).length = vs.length - sz + 1 := by
            rw [List.length_append, List.length_take]
            simp only [List.length_cons, List.length_nil]
            omega
          exact ⟨s3.trans t18, q8, Same.free s3 n8, _, g8, tms', htm', ok', by omega, by omega, by omega, by omega, _, _, _, _, StIs.rfl⟩
        · rw [eH]
          and_intros
          refine ⟨.inl ⟨rfl, _, SqL.of hp⟩, c / 6, nl, zs, rfl, s3 _ _ hnl, z1, z20, hz, fun v tm H2 s2 ht2 ok2 dp2 dq2 => ?_⟩
          obtain ⟨tms', htm', ok', dp', dq'⟩ := stack_snoc (htm.same s2) ok ht2 ok2 dp2 dq2
          have lv : (vs ++ [v]).length = vs.length + 1 := by
            rw [List.length_append]
            rfl
          exact ⟨_, s2 _ _ hp, small1000 (by omega), same_ne (s3.trans s2) hp0, p, hp0, _, upd_same, tms', htm'.tups (lst_tups (s2 _ _ hp)), ok', by omega, by omega, by omega, by omega, _, _, _, _, StIs.rfl⟩
    rintro σ H' ⟨s3, p, vs, tms, hp0, hp, htm, ok, dp, dq, l1, li, o5, o6, o7, o8, rfl⟩
    dsimp only
    subst hB
    refine tseq_open fun B hB => ?_
    and_intros
    refine ⟨fun mm σ H' => Same H H' ∧ ∃ (p : Addr) (vs : List V) (tms : List Tm), H' p = some (.lst vs) ∧ TmsAt H' vs tms ∧ rdL tms ∧ 1 ≤ vs.length ∧ vs.length = mm ∧ vs.length ≤ 7 ∧ szL tms + vs.length ≤ 14 ∧ dpL tms + vs.length ≤ 7 ∧ ∃ o8 : Option V, StIs σ [some (.ref a), some (.int b), some (.int m), some (.ref nl), some (.ref p), o5, o6, o7, o8], ⟨_, s3, p, vs, tms, hp, htm, ok, l1, rfl, by omega, by omega, by omega, o8, StIs.rfl⟩, ?_⟩
    clear hp0 hp htm ok dp dq l1 li s3
    rintro mm σ H' ⟨s3, p, vs, tms, hp, htm, ok, l1, lm, l7, dC, dD, o8, rfl⟩
    refine test_first (fun b H1 => H1 = H' ∧ b = decide ((1 : Int) < vs.length)) (fun G hG => by and_intros; exact ⟨_, SqL.of hp, hG _ _ ⟨rfl, rfl⟩⟩) ?_
    rintro bq H1 ⟨eH, ebq⟩
    rw [eH, ebq]
    refine ite2 (fun hx => ?_) fun hx => ?_
    · refine ⟨fun σ' H1 => Same H H1 ∧ ∃ (p1 : Addr) (vs1 : List V) (tms1 : List Tm), H1 p1 = some (.lst vs1) ∧ TmsAt H1 vs1 tms1 ∧ rdL tms1 ∧ 1 ≤ vs1.length ∧ vs1.length < mm ∧ vs1.length ≤ 7 ∧ szL tms1 + vs1.length ≤ 14 ∧ dpL tms1 + vs1.length ≤ 7 ∧ ∃ o8 : Option V, StIs σ' [some (.ref a), some (.int b), some (.int m), some (.ref nl), some (.ref p1), o5, o6, o7, o8], fun σ' H1 ⟨e1, p1, vs1, tms1, e2, e3, e4, e5, e6, e7, e8, e9, o8', e11⟩ => ⟨vs1.length, e6, e1, p1, vs1, tms1, e2, e3, e4, e5, rfl, e7, e8, e9, o8', e11⟩, ?_⟩
      have hx := of_decide_eq_true hx
      refine tseq_open fun B2 hB2 => ?_
      and_intros
      refine ⟨_, SqL.of hp, ?_⟩
      obtain ⟨sz, esz, z2, z6, zl, zz⟩ : ∃ sz : Nat, (if (vs.length : Int) < 6 then (vs.length : Int) else 6) = (sz : Int) ∧ 2 ≤ sz ∧ sz ≤ 6 ∧ sz ≤ vs.length ∧ (sz = 6 ∨ sz = vs.length) := by
        by_cases h : (vs.length : Int) < 6
        · rw [if_pos h]; exact ⟨vs.length, rfl, by omega, by omega, Nat.le_refl _, .inr rfl⟩
        · rw [if_neg h]; exact ⟨6, rfl, by omega, by omega, by omega, .inl rfl⟩
      rw [esz]
      have dp : szL tms ≤ szL tms := Nat.le_refl _
      subst hB2
      have wd : ∀ c2 : Int, ∃ bb, atI ([.str "any", .str "all"] : List V) (c2 / 7 % 2) = some (.str (wJ bb)) := fun c2 => by
        have q0 := Int.emod_nonneg (c2 / 7) (show (2 : Int) ≠ 0 by decide)
        have q1 := Int.emod_lt_of_pos (c2 / 7) (show (0 : Int) < 2 by decide)
        rcases (show c2 / 7 % 2 = 0 ∨ c2 / 7 % 2 = 1 by omega) with h | h
        · rw [h]; exact ⟨false, rfl⟩
        · rw [h]; exact ⟨true, rfl⟩
      simp only [tAsg, gName]
      refine fold_read (K := K) hp (by omega) zl (by omega) (fun J R sJ r => ?_) (fun bb q6 q8 J8 t18 n8 g6 g8 => ?_)
      · and_intros
        refine ⟨by decide, fun q2 h2 => ⟨a, ns, b, rfl, hS.same ((s3.trans sJ).trans (Same.put h2)), fun c2 => ⟨c2, rfl, ?_⟩⟩⟩
        obtain ⟨bb, ebb⟩ := wd c2
        exact ⟨_, SqL.of upd_same, _, ebb, r bb _ (Same.put h2)⟩
      simp only [List.set_cons_zero, List.set_cons_succ]
      obtain ⟨tms', htm', ok', dp', dq'⟩ := stack_fold (b := bb) (q := q6) (n := sz) (htm.same t18) (by omega) (by omega) (by omega) ok g6
      have l8 : (vs.take (vs.length - sz) ++ [V.ref q6]).length = vs.length - sz + 1 := by
        rw [List.length_append, List.length_take]
        simp only [List.length_cons, List.length_nil]
        omega
      exact ⟨s3.trans t18, q8, _, g8, tms', htm', ok', by omega, by omega, by omega, by omega, by omega, _, StIs.rfl⟩
    · obtain ⟨v, ev⟩ : ∃ v, vs[0]? = some v := ⟨_, List.getElem?_eq_getElem (by omega)⟩
      obtain ⟨pm, hpm, hv⟩ := htm.get ev
      have hmem := List.mem_of_getElem? hpm
      have dmem := szL_mem hmem
      have dmem2 := dpL_mem hmem
      subst hB
      and_intros
      exact ⟨_, SqL.of hp, _, (show atI _ ((0 : Nat) : Int) = _ from atI_nat ev), k v pm H' s3 hv (rdL_mem ok hmem) (by omega) (by omega)⟩
theorem ok__law_text {f : Addr} {fd : FuncData} {n : Nat} (D : Def K mg "_law_text" s__law_text ["_law_term_here"] f fd) (T : Txt K mg ad) {f__law_text : Addr} {fd__law_text : FuncData} (G__law_text : FnOk P w K mg base CX0 (n + 1) f__law_text fd__law_text ["_law_term_here"] (sp__law_text n)) (D__law_text : Def K mg "_law_text" s__law_text ["_law_term_here"] f__law_text fd__law_text) : FnOk P w K mg base CX0 (n + 1 + 1) f fd ["_law_term_here"] (sp__law_text (n + 1)) := by
  refine D.F.ok sc__law_text (fun vs H Q E h => ?_) (fun cdv A outer s H vs Q E hr h => ?_)
  · obtain ⟨v, tm, rfl, _⟩ := h
    rfl
  · obtain ⟨v, tm, rfl, ht, ok, sz, dp, k⟩ := h
    obtain ⟨a, xs, rfl, ha, hv, hj⟩ := tm_tup ht
    have at0 : atI (V.str (wdT tm) :: xs) 0 = some (.str (wdT tm)) := (show atI _ ((0 : Nat) : Int) = _ from atI_nat rfl)
    have w6 := wd_len ok
    refine ⟨_, (@pss_cons _ _ _ _ _ (ps_if (pt_cmpR op_eq (pe_ix ix_tup (pv 0) pe_int (fun _ _ => rfl)) pe_str (nomark _))
      (@pss_one _ _ _ (ps_ret (pe_op op_add_str (pe_op op_add_str (pe_op op_add_str (pe_op op_add_str pe_str (pe_callTy call_str_int rfl T.str PyProof.Rows.boot_str (pa_cons (pe_ix ix_tup (pv 0) pe_int (fun _ _ => rfl)) pa_nil))) pe_str) (pe_ix ix_tup (pv 0) pe_int (fun _ _ => rfl))) pe_str)))
      pss_nil)
      (@pss_cons _ _ _ _ _ (ps_if (pt_cmpR op_in_seq (pe_ix ix_tup (pv 0) pe_int (fun _ _ => rfl)) (pe_tup (pa_cons pe_str (pa_cons pe_str (pa_cons pe_str pa_nil)))) rfl)
      (@pss_one _ _ _ (ps_ret (pe_op op_add_str (pe_op op_add_str (pe_op op_add_str (pe_ix ix_tup (pv 0) pe_int (fun _ _ => rfl)) pe_str) (pe_bm PySem.F.plainAttrs_str PySem.F.slot_str_join PySem.F.type_str_join mt_join pe_str (pa_cons (pe_comp (own := ["_law_part"]) (cap := []) (ix := []) rfl (show CompScope ["_law_term_here"] (defScope s__law_text) _ ["_law_part"] [] [] from ⟨rfl, by decide +kernel, by decide +kernel, by decide +kernel, by decide +kernel, by decide +kernel, by decide +kernel, rfl, by decide +kernel⟩) (pi_tup (pe_slice sl_tupA (pv 0) (po_some pe_int) po_none)) (fun C s₀ H₀ ex pn => ⟨pg_name (i := 0) (show (["_law_part"] : List Str).Nodup by decide +kernel) rfl (Or.inl rfl), pifs_nil, (pe_call G__law_text (hr.mono (by omega)) rfl D__law_text.mg D__law_text.F.kp D__law_text.b .nil pass0 (pa_cons (pv 0) pa_nil))⟩)) pa_nil))) pe_str)))
      pss_nil)
      (@pss_one _ _ _ (ps_ret (pe_op op_add_str (pe_op op_add_str (pe_op op_add_str (pe_ix ix_tup (pv 0) pe_int (fun _ _ => rfl)) pe_str) (pe_bm PySem.F.plainAttrs_str PySem.F.slot_str_join PySem.F.type_str_join mt_join pe_str (pa_cons (pe_slice sl_tupA (pv 0) (po_some pe_int) po_none) pa_nil))) pe_str))))), ?_⟩
    and_intros
    refine ⟨_, SqT.of ha, _, at0, rfl, ite2 (fun hx => ?_) (fun hx => ?_)⟩
    · obtain ⟨i, m, rfl⟩ := wd_many ok (V.str.inj hx)
      obtain rfl := hv rfl
      unfold okT at ok
      have z1 := (mark_all ok.2).2.1
      have z2 := PyProof.Rows.int_text_len_1921 ok.1
      have k' := k H (Same.refl _)
      unfold textT at k'
      rw [← many_text] at k'
      refine ⟨_, SqT.of ha, .int i, rfl, i, rfl, ok.1, ?_, ?_, _, SqT.of ha, .str m, rfl, m, rfl, ?_, ?_, k'⟩
      all_goals
        try simp only [Str.length_append]
        rw [sizeLine_eq, show (Str.ofString "many(").length = 5 by decide +kernel]
      · omega
      · rw [show (Str.ofString ",").length = 1 by decide +kernel]
        omega
      · rw [show (Str.ofString ",").length = 1 by decide +kernel]
        omega
      · rw [show (Str.ofString ",").length = 1 by decide +kernel, show (Str.ofString ")").length = 1 by decide +kernel]
        omega
    have hx' : ¬ wdT tm = "many" := fun e => hx (by rw [e])
    refine ⟨_, SqT.of ha, _, at0, by decide, fun t h3 => ⟨t, _, rfl, .inr (SqT.of upd_same), rfl, rfl, isJ tm, congrArg V.bl (in_j ok), ?_⟩⟩
    have s1 := Same.put (o := .tup [.str "all", .str "any", .str "not"]) h3
    generalize (upd H t (.tup [.str "all", .str "any", .str "not"])) = H1 at s1 ⊢
    have ha1 := s1 _ _ ha
    have fin : ∀ zs : List Str, (zs.map (·.length)).sum + zs.length ≤ 100000 → (wdT tm ++ Str.ofString "(").length + ((Str.ofString ",").join zs).length ≤ sizeLine ∧ (wdT tm ++ Str.ofString "(" ++ (Str.ofString ",").join zs).length + (Str.ofString ")").length ≤ sizeLine := fun zs hz => by
      have jl := StrLaws.join_length_le "," zs
      rw [show ("," : Str).length = 1 by decide +kernel] at jl
      rw [sizeLine_eq, Str.length_append, Str.length_append, show (Str.ofString "(").length = 1 by decide +kernel, show (Str.ofString ")").length = 1 by decide +kernel]
      have jl : ((Str.ofString ",").join zs).length ≤ _ := jl
      rw [Str.length_append, show (Str.ofString "(").length = 1 by decide +kernel]
      omega
    have b1 : (wdT tm).length + (Str.ofString "(").length ≤ sizeLine := by rw [sizeLine_eq, show (Str.ofString "(").length = 1 by decide +kernel]; omega
    refine ite2 (fun j => ?_) (fun j => ?_)
    · obtain ⟨et, _, es, ed⟩ := sub_text j
      obtain ⟨oS, l10⟩ := sub_ok ok j
      have hts := (hj j).same s1
      refine ⟨_, SqT.of ha1, _, at0, wdT tm, rfl, b1, rfl, ?_⟩
      refine tcomp_tupW (K := K) (fun p1 H2 => Same H1 H2 ∧ H2 p1 = some (.tup xs)) (fun R r => ?_) (fun p1 H2 ⟨s2, h2⟩ => ?_)
      · and_intros
        refine ⟨_, SqT.of ha1, fun h => absurd h no_whole, fun _ p hp => ?_⟩
        rw [cut1]
        exact ⟨⟨_, SqT.of upd_same⟩, r _ _ ⟨Same.put hp, upd_same⟩⟩
      refine tcomp_tup (K := K) (a := p1) (xs := xs) (H1 := H2) (fun R r => r) (fun i ys H' => Same H1 H' ∧ H' p1 = some (.tup xs) ∧ ys = (((subT tm).take i).map textT).map V.str) ⟨s2, h2, rfl⟩ (fun i ys H' _ ⟨_, h, _⟩ => SqT.of h) ?_ ?_
      · rintro i x ys H' R hx ⟨s3, h3, rfl⟩ hR
        simp only [tYes]
        and_intros
        obtain ⟨pm, hpm, hx'⟩ := hts.get hx
        have hmem := List.mem_of_getElem? hpm
        have := dpL_mem hmem
        have := szL_mem hmem
        refine ⟨x, pm, rfl, hx'.same s3, okL_mem oS hmem, by omega, by omega, fun H4 s4 => ⟨small1000 (by rw [List.length_map, List.length_map, List.length_take]; omega), hR _ _ ⟨s3.trans s4, s4 _ _ h3, ?_⟩⟩⟩
        rw [List.take_add_one, hpm, List.map_append, List.map_append]
        rfl
      · rintro ys H' ⟨s3, h3, rfl⟩
        rw [hts.length, List.take_length]
        have tl := textL_len _ oS
        rw [textL_map] at tl
        have lz : ((subT tm).map textT).length = (subT tm).length := List.length_map _
        refine ⟨Nat.le_of_lt (small1000 (by rw [List.length_map, List.length_map]; omega)), fun L hL => ?_⟩
        have k' := k _ ((s1.trans s3).upd (o := .lst (((subT tm).map textT).map V.str)) hL)
        rw [et] at k'
        obtain ⟨f1, f2⟩ := fin ((subT tm).map textT) (by omega)
        exact ⟨L, rfl, _, .inl (SqL.of upd_same), by decide +kernel, by omega, f1, f2, k'⟩
    · obtain ⟨zs, ez, et, _, l2, l16⟩ := leaf_text ok (Bool.eq_false_iff.mpr j) hx'
      have er := hv (Bool.eq_false_iff.mpr j)
      rw [ez] at er
      subst er
      obtain ⟨f1, f2⟩ := fin zs (by omega)
      refine ⟨_, SqT.of ha1, _, at0, wdT tm, rfl, b1, rfl, _, SqT.of ha1, fun h => absurd h no_whole, fun _ p hp => ?_⟩
      rw [cut1]
      have k' := k _ (s1.upd (o := .tup (zs.map V.str)) hp)
      rw [et] at k'
      exact ⟨_, .inr (SqT.of upd_same), by decide +kernel, by omega, f1, f2, k'⟩
theorem ok__law_refused {f : Addr} {fd : FuncData} (D : Def K mg "_law_refused" s__law_refused ["_law_text_here"] f fd) (T : Txt K mg ad) {f_read_fault : Addr} {fd_read_fault : FuncData} (G_read_fault : FnOk P w K mg base (CX1 P w) 40 f_read_fault fd_read_fault ["text"] (sp_read_fault K ad)) (D_read_fault : Def K mg "read_fault" s_read_fault ["text"] f_read_fault fd_read_fault) : FnOk P w K mg base CX0 41 f fd ["_law_text_here"] (sp__law_refused K) := by
  refine D.F.ok sc__law_refused (fun vs H Q E h => ?_) (fun cdv A outer s H vs Q E hr h => ?_)
  · obtain ⟨v, ty, b, rfl, _⟩ := h
    rfl
  · obtain ⟨v, ty, b, rfl, ht, hb, kt, k⟩ := h
    have fail : ∀ {E : XK} {Q' : VK} (H1 : Hp), Same H H1 → (∀ H', Same H1 H' → E (.ref ad.NoFault) none H') → sp_read_fault K ad [v] H1 Q' E := fun H1 s1 hE => ⟨v, ty, b, rfl, ht H1 s1, hb, fun _ => hE, fun e => by
      obtain ⟨z, hv, hz, hR⟩ := kt e
      exact ⟨z, hv, hz, fun tm n q => absurd q (hR tm n), fun _ => hE⟩⟩
    refine ⟨_, (@pss_cons _ _ _ _ _ (ps_set (i := 1) sc__law_refused.nd rfl (Or.inl rfl) pe_bl)
      (@pss_cons _ _ _ _ _ (ps_tryN ⟨rfl, rfl, rfl⟩ rfl T.c_NoFault (pex_call G_read_fault (hr.mono (by decide)) rfl D_read_fault.mg D_read_fault.F.kp D_read_fault.b .nil (pa_cons (pv 0) pa_nil))
      (fun ea => (@pss_one _ _ _ (ps_set (i := 1) sc__law_refused.nd rfl (Or.inl rfl) pe_bl))))
      (@pss_cons _ _ _ _ _ (ps_if (pt_not (pt_val (pv 1)))
      (@pss_one _ _ _ (ps_ret pe_bl))
      pss_nil)
      (@pss_cons _ _ _ _ _ (ps_tryE ⟨rfl, rfl, rfl⟩ sc__law_refused.nd (i := 2) rfl rfl rfl T.c_ShrinkError (pex_call G_read_fault (hr.mono (by decide)) rfl D_read_fault.mg D_read_fault.F.kp D_read_fault.b .nil (pa_cons (pv 0) pa_nil))
      (fun ea => (@pss_cons _ _ _ _ _ (ps_set (i := 3) sc__law_refused.nd rfl (Or.inl rfl) (pe_or (pe_callB (show CallR _ (.builtin "isinstance") (rIsiX K) from call_isiX2) rfl T.isinstance PyProof.Rows.boot_isinstance (pa_cons (pv 2) (pa_cons (pe_glob (v := .ref _) rfl T.c_NoText rfl) pa_nil))) (pe_or (pe_callB (show CallR _ (.builtin "isinstance") (rIsiX K) from call_isiX2) rfl T.isinstance PyProof.Rows.boot_isinstance (pa_cons (pv 2) (pa_cons (pe_glob (v := .ref _) rfl T.c_NoThing rfl) pa_nil))) (pe_one (pe_callB (show CallR _ (.builtin "isinstance") (rIsiX K) from call_isiX2) rfl T.isinstance PyProof.Rows.boot_isinstance (pa_cons (pv 2) (pa_cons (pe_glob (v := .ref _) rfl T.c_NoRow rfl) pa_nil)))))))
      (@pss_one _ _ _ (ps_ret (pe_and (pe_callB (show CallR _ (.builtin "isinstance") (rIsiX K) from call_isiX2) rfl T.isinstance PyProof.Rows.boot_isinstance (pa_cons (pv 2) (pa_cons (pe_ty rfl T.ValueError (show bootBuiltins "ValueError" = some (.type "ValueError") by decide +kernel)) pa_nil))) (pe_one (pe_not (pv 3)))))))))
      (@pss_one _ _ _ (ps_ret pe_bl)))))), ?_⟩
    refine tseq_open fun B hB => ?_
    and_intros
    subst hB
    refine tseq_open fun B hB => ?_
    refine (show tTryN _ _ _ _ _ _ _ from ?_)
    refine ⟨_, rfl, fail H (Same.refl _) fun H1 s1 => ⟨T.exm_NoFault_NoFault, fun ea hea => ?_⟩⟩
    have s2 := s1.upd (o := excO ea (.ref ad.NoFault)) hea
    generalize (upd H1 ea (excO ea (.ref ad.NoFault))) = H2 at s2 ⊢
    and_intros
    subst hB
    refine tseq_open fun B hB => ?_
    and_intros
    subst hB
    refine tseq_open fun B hB => ?_
    refine (show tTryE _ _ _ _ _ _ _ _ from ?_)
    refine ⟨_, rfl, fail H2 s2 fun H3 s3 => ⟨T.exm_NoFault_ShrinkError, fun e he => ?_⟩⟩
    have s4 := (s2.trans s3).upd (o := excO e (.ref ad.NoFault)) he
    have fe : (upd H3 e (excO e (.ref ad.NoFault))) e = some (excO e (.ref ad.NoFault)) := upd_same
    generalize (upd H3 e (excO e (.ref ad.NoFault))) = H4 at s4 fe ⊢
    refine tseq_open fun B2 hB2 => ?_
    and_intros
    refine ⟨e, ad.NoFault, _, false, rfl, fe, T.lk_NoFault, ⟨.ref ad.NoText, rfl, T.kx_NoFault_NoText⟩, false, rfl, ?_⟩
    rw [if_neg (by decide)]
    refine ⟨e, ad.NoFault, _, false, rfl, fe, T.lk_NoFault, ⟨.ref ad.NoThing, rfl, T.kx_NoFault_NoThing⟩, false, rfl, ?_⟩
    rw [if_neg (by decide)]
    refine ⟨e, ad.NoFault, _, false, rfl, fe, T.lk_NoFault, ⟨.ref ad.NoRow, rfl, T.kx_NoFault_NoRow⟩, ?_⟩
    subst hB2
    and_intros
    refine ⟨e, ad.NoFault, _, true, rfl, fe, T.lk_NoFault, ⟨.type "ValueError", rfl, T.kx_NoFault_ValueError⟩, true, rfl, ?_⟩
    rw [if_pos rfl]
    exact k H4 s4
theorem ok__law_wide {f : Addr} {fd : FuncData} (D : Def K mg "_law_wide" s__law_wide ["_law_one", "_law_many"] f fd) (T : Txt K mg ad) : FnOk P w K mg base CX0 1 f fd ["_law_one", "_law_many"] sp__law_wide := by
  refine D.F.ok sc__law_wide (fun vs H Q E h => ?_) (fun cdv A outer s H vs Q E hr h => ?_)
  · obtain ⟨a, m, rfl, _⟩ := h
    rfl
  · obtain ⟨a, m, rfl, ha, m2, m6, k⟩ := h
    have l13 := one_len13 ha
    have wt := wide_text a m
    rw [← wt] at k
    clear wt
    generalize textT (.has a) = one at l13 k ⊢
    have c1 : (Str.ofString ",").length = 1 := by decide +kernel
    have c2 : (Str.ofString "any(").length = 4 := by decide +kernel
    have c3 : (Str.ofString ")").length = 1 := by decide +kernel
    have c4 : (Str.ofString "all(").length = 4 := by decide +kernel
    have c5 : (Str.ofString ",any(").length = 5 := by decide +kernel
    have c6 : (Str.ofString "))").length = 2 := by decide +kernel
    have c7 : (Str.ofString "all(all(").length = 8 := by decide +kernel
    have c8 : (Str.ofString "),").length = 2 := by decide +kernel
    have j6 := jl_rep 6 one
    have j4 := jl_rep 4 (Str.ofString "any(" ++ one ++ Str.ofString "," ++ one ++ Str.ofString ")")
    have lq : (Str.ofString "any(" ++ one ++ Str.ofString "," ++ one ++ Str.ofString ")").length ≤ 32 := by simp only [Str.length_append]; omega
    have jm := jl_rep m one
    have mm : m * one.length ≤ 6 * 13 := Nat.mul_le_mul m6 l13
    refine ⟨_, (@pss_cons _ _ _ _ _ (ps_set (i := 2) sc__law_wide.nd rfl (Or.inr rfl) (pe_op op_add_str (pe_op op_add_str pe_str (pe_bm PySem.F.plainAttrs_str PySem.F.slot_str_join PySem.F.type_str_join mt_join pe_str (pa_cons (pe_comp (own := ["_law_k"]) (cap := ["_law_one"]) (ix := [0]) rfl (show CompScope ["_law_one", "_law_many", "_law_six", "_law_last"] (defScope s__law_wide) _ ["_law_k"] ["_law_one"] [0] from ⟨rfl, by decide +kernel, by decide +kernel, by decide +kernel, by decide +kernel, by decide +kernel, by decide +kernel, rfl, by decide +kernel⟩) (pi_range1 rfl T.range (pa_cons pe_int pa_nil)) (fun C s₀ H₀ ex pn => ⟨pg_name (i := 0) (show (["_law_k", "_law_one"] : List Str).Nodup by decide +kernel) rfl (Or.inl rfl), pifs_nil, (pv 1)⟩)) pa_nil))) pe_str))
      (@pss_cons _ _ _ _ _ (ps_set (i := 3) sc__law_wide.nd rfl (Or.inl rfl) (pe_op op_add_str pe_str (pe_bm PySem.F.plainAttrs_str PySem.F.slot_str_join PySem.F.type_str_join mt_join pe_str (pa_cons (pe_comp (own := ["_law_k"]) (cap := ["_law_one"]) (ix := [0]) rfl (show CompScope ["_law_one", "_law_many", "_law_six", "_law_last"] (defScope s__law_wide) _ ["_law_k"] ["_law_one"] [0] from ⟨rfl, by decide +kernel, by decide +kernel, by decide +kernel, by decide +kernel, by decide +kernel, by decide +kernel, rfl, by decide +kernel⟩) (pi_range1 rfl T.range (pa_cons pe_int pa_nil)) (fun C s₀ H₀ ex pn => ⟨pg_name (i := 0) (show (["_law_k", "_law_one"] : List Str).Nodup by decide +kernel) rfl (Or.inl rfl), pifs_nil, (pe_op op_add_str (pe_op op_add_str (pe_op op_add_str (pe_op op_add_str pe_str (pv 1)) pe_str) (pv 1)) pe_str)⟩)) pa_nil))))
      (@pss_cons _ _ _ _ _ (ps_set (i := 3) sc__law_wide.nd rfl (Or.inl rfl) (pe_op op_add_str (pe_op op_add_str (pe_op op_add_str (pv 3) pe_str) (pe_bm PySem.F.plainAttrs_str PySem.F.slot_str_join PySem.F.type_str_join mt_join pe_str (pa_cons (pe_comp (own := ["_law_k"]) (cap := ["_law_one"]) (ix := [0]) rfl (show CompScope ["_law_one", "_law_many", "_law_six", "_law_last"] (defScope s__law_wide) _ ["_law_k"] ["_law_one"] [0] from ⟨rfl, by decide +kernel, by decide +kernel, by decide +kernel, by decide +kernel, by decide +kernel, by decide +kernel, rfl, by decide +kernel⟩) (pi_range1 rfl T.range (pa_cons (pv 1) pa_nil)) (fun C s₀ H₀ ex pn => ⟨pg_name (i := 0) (show (["_law_k", "_law_one"] : List Str).Nodup by decide +kernel) rfl (Or.inl rfl), pifs_nil, (pv 1)⟩)) pa_nil))) pe_str))
      (@pss_one _ _ _ (ps_ret (pe_op op_add_str (pe_op op_add_str (pe_op op_add_str (pe_op op_add_str pe_str (pe_bm PySem.F.plainAttrs_str PySem.F.slot_str_join PySem.F.type_str_join mt_join pe_str (pa_cons (pe_comp (own := ["_law_k"]) (cap := ["_law_six"]) (ix := [2]) rfl (show CompScope ["_law_one", "_law_many", "_law_six", "_law_last"] (defScope s__law_wide) _ ["_law_k"] ["_law_six"] [2] from ⟨rfl, by decide +kernel, by decide +kernel, by decide +kernel, by decide +kernel, by decide +kernel, by decide +kernel, rfl, by decide +kernel⟩) (pi_range1 rfl T.range (pa_cons pe_int pa_nil)) (fun C s₀ H₀ ex pn => ⟨pg_name (i := 0) (show (["_law_k", "_law_six"] : List Str).Nodup by decide +kernel) rfl (Or.inl rfl), pifs_nil, (pv 1)⟩)) pa_nil))) pe_str) (pv 3)) pe_str)))))), ?_⟩
    refine tseq_open fun B hB => ?_
    and_intros
    refine ⟨rfl, ?_⟩
    refine tcomp_range (lo := 0) (n := 6) (H1 := H) (fun R r => ?_) (fun i ys H' => H' = H ∧ ys = List.replicate i (V.str one)) ⟨rfl, rfl⟩ ?_ ?_
    · and_intros
      exact ⟨by decide, by decide, r⟩
    · rintro i ys H' R hi ⟨rfl, rfl⟩ hR
      simp only [tYes]
      and_intros
      exact ⟨small1000 (by rw [List.length_replicate]; omega), hR _ _ ⟨rfl, List.replicate_succ'.symm⟩⟩
    rintro ys H' ⟨eH, rfl⟩
    rw [eH]
    refine ⟨Nat.le_of_lt (small1000 (by rw [List.length_replicate]; decide)), fun L hL => ⟨L, rfl, List.replicate 6 one, .inl (SqL.of (by rw [upd_same, List.map_replicate])), by decide +kernel, by rw [rep_sum, List.length_replicate]; omega, (by (try simp only [Str.length_append]); rw [sizeLine_eq]; omega), (by (try simp only [Str.length_append]); rw [sizeLine_eq]; omega), ?_⟩⟩
    have s1 := Same.put (o := .lst (List.replicate 6 (V.str one))) hL
    generalize (upd H L (.lst (List.replicate 6 (V.str one)))) = H1 at s1 ⊢
    have l6 : (Str.ofString "any(" ++ (Str.ofString ",").join (List.replicate 6 one) ++ Str.ofString ")").length ≤ 89 := by simp only [Str.length_append]; omega
    generalize Str.ofString "any(" ++ (Str.ofString ",").join (List.replicate 6 one) ++ Str.ofString ")" = six at l6 k ⊢
    subst hB
    refine tseq_open fun B hB => ?_
    and_intros
    refine ⟨rfl, ?_⟩
    refine tcomp_range (lo := 0) (n := 4) (H1 := H1) (fun R r => ?_) (fun i ys H' => H' = H1 ∧ ys = List.replicate i (V.str (Str.ofString "any(" ++ one ++ Str.ofString "," ++ one ++ Str.ofString ")"))) ⟨rfl, rfl⟩ ?_ ?_
    · and_intros
      exact ⟨by decide, by decide, r⟩
    · rintro i ys H' R hi ⟨rfl, rfl⟩ hR
      simp only [tYes]
      and_intros
      exact ⟨(by (try simp only [Str.length_append]); rw [sizeLine_eq]; omega), (by (try simp only [Str.length_append]); rw [sizeLine_eq]; omega), (by (try simp only [Str.length_append]); rw [sizeLine_eq]; omega), (by (try simp only [Str.length_append]); rw [sizeLine_eq]; omega), small1000 (by rw [List.length_replicate]; omega), hR _ _ ⟨rfl, List.replicate_succ'.symm⟩⟩
    rintro ys H' ⟨eH, rfl⟩
    rw [eH]
    refine ⟨Nat.le_of_lt (small1000 (by rw [List.length_replicate]; decide)), fun Lb hLb => ⟨Lb, rfl, List.replicate 4 (Str.ofString "any(" ++ one ++ Str.ofString "," ++ one ++ Str.ofString ")"), .inl (SqL.of (by rw [upd_same, List.map_replicate])), by decide +kernel, by rw [rep_sum, List.length_replicate]; omega, (by (try simp only [Str.length_append]); rw [sizeLine_eq]; omega), ?_⟩⟩
    have s2 := s1.upd (o := .lst (List.replicate 4 (V.str (Str.ofString "any(" ++ one ++ Str.ofString "," ++ one ++ Str.ofString ")")))) hLb
    generalize (upd H1 Lb (.lst (List.replicate 4 (V.str (Str.ofString "any(" ++ one ++ Str.ofString "," ++ one ++ Str.ofString ")"))))) = H2 at s2 ⊢
    have l4 : (Str.ofString "all(" ++ (Str.ofString ",").join (List.replicate 4 (Str.ofString "any(" ++ one ++ Str.ofString "," ++ one ++ Str.ofString ")"))).length ≤ 140 := by simp only [Str.length_append]; omega
    generalize Str.ofString "all(" ++ (Str.ofString ",").join (List.replicate 4 (Str.ofString "any(" ++ one ++ Str.ofString "," ++ one ++ Str.ofString ")")) = last at l4 k ⊢
    subst hB
    refine tseq_open fun B hB => ?_
    and_intros
    refine ⟨(by (try simp only [Str.length_append]); rw [sizeLine_eq]; omega), rfl, ?_⟩
    refine tcomp_range (lo := 0) (n := m) (H1 := H2) (fun R r => ?_) (fun i ys H' => H' = H2 ∧ ys = List.replicate i (V.str one)) ⟨rfl, rfl⟩ ?_ ?_
    · and_intros
      exact ⟨by omega, by omega, by rw [Int.toNat_natCast]; exact r⟩
    · rintro i ys H' R hi ⟨rfl, rfl⟩ hR
      simp only [tYes]
      and_intros
      exact ⟨small1000 (by rw [List.length_replicate]; omega), hR _ _ ⟨rfl, List.replicate_succ'.symm⟩⟩
    rintro ys H' ⟨eH, rfl⟩
    rw [eH]
    refine ⟨Nat.le_of_lt (small1000 (by rw [List.length_replicate]; omega)), fun L3 hL3 => ⟨L3, rfl, List.replicate m one, .inl (SqL.of (by rw [upd_same, List.map_replicate])), by decide +kernel, by rw [rep_sum, List.length_replicate]; omega, (by (try simp only [Str.length_append]); rw [sizeLine_eq]; omega), (by (try simp only [Str.length_append]); rw [sizeLine_eq]; omega), ?_⟩⟩
    have s3 := s2.upd (o := .lst (List.replicate m (V.str one))) hL3
    generalize (upd H2 L3 (.lst (List.replicate m (V.str one)))) = H3 at s3 ⊢
    have ll : (last ++ Str.ofString ",any(" ++ (Str.ofString ",").join (List.replicate m one) ++ Str.ofString "))").length ≤ 300 := by simp only [Str.length_append]; omega
    generalize last ++ Str.ofString ",any(" ++ (Str.ofString ",").join (List.replicate m one) ++ Str.ofString "))" = last2 at ll k ⊢
    have js := jl_rep 6 six
    subst hB
    and_intros
    refine ⟨rfl, ?_⟩
    refine tcomp_range (lo := 0) (n := 6) (H1 := H3) (fun R r => ?_) (fun i ys H' => H' = H3 ∧ ys = List.replicate i (V.str six)) ⟨rfl, rfl⟩ ?_ ?_
    · and_intros
      exact ⟨by decide, by decide, r⟩
    · rintro i ys H' R hi ⟨rfl, rfl⟩ hR
      simp only [tYes]
      and_intros
      exact ⟨small1000 (by rw [List.length_replicate]; omega), hR _ _ ⟨rfl, List.replicate_succ'.symm⟩⟩
    rintro ys H' ⟨eH, rfl⟩
    rw [eH]
    refine ⟨Nat.le_of_lt (small1000 (by rw [List.length_replicate]; decide)), fun L4 hL4 => ⟨L4, rfl, List.replicate 6 six, .inl (SqL.of (by rw [upd_same, List.map_replicate])), by decide +kernel, by rw [rep_sum, List.length_replicate]; omega, (by (try simp only [Str.length_append]); rw [sizeLine_eq]; omega), (by (try simp only [Str.length_append]); rw [sizeLine_eq]; omega), (by (try simp only [Str.length_append]); rw [sizeLine_eq]; omega), (by (try simp only [Str.length_append]); rw [sizeLine_eq]; omega), k _ (s3.upd hL4)⟩⟩
theorem ok__law_plain_odd {f : Addr} {fd : FuncData} (D : Def K mg "_law_plain_odd" s__law_plain_odd ["_law_a", "_law_b"] f fd) (T : Txt K mg ad) : FnOk P w K mg base CX0 1 f fd ["_law_a", "_law_b"] sp__law_plain_odd := by
  refine D.F.ok sc__law_plain_odd (fun vs H Q E h => ?_) (fun cdv A outer s H vs Q E hr h => ?_)
  · obtain ⟨a, b, rfl, _⟩ := h
    rfl
  · obtain ⟨a, b, rfl, ha, hb, k⟩ := h
    have e0 : (Str.ofString "").length = 0 := by decide +kernel
    have e1 : (Str.ofString "has").length = 3 := by decide +kernel
    have e2 : (Str.ofString "has(").length = 4 := by decide +kernel
    have e3 : (Str.ofString "has()").length = 5 := by decide +kernel
    have e4 : (Str.ofString "))").length = 2 := by decide +kernel
    have e5 : (Str.ofString ")").length = 1 := by decide +kernel
    have e6 : (Str.ofString ",").length = 1 := by decide +kernel
    have e7 : (Str.ofString "has (").length = 5 := by decide +kernel
    have e8 : (Str.ofString "Has(").length = 4 := by decide +kernel
    have e9 : (Str.ofString "has(a1)").length = 7 := by decide +kernel
    have e10 : (Str.ofString "has(abcdefghi)").length = 14 := by decide +kernel
    have e11 : (Str.ofString " has(").length = 5 := by decide +kernel
    have e12 : (Str.ofString ") ").length = 2 := by decide +kernel
    have e13 : (Str.ofString "),has(").length = 6 := by decide +kernel
    have e14 : (Str.ofString "many(").length = 5 := by decide +kernel
    have e15 : (Str.ofString "many(0,").length = 7 := by decide +kernel
    have e16 : (Str.ofString "many(01,").length = 8 := by decide +kernel
    have e17 : (Str.ofString "many(1234567890,").length = 16 := by decide +kernel
    have e18 : (Str.ofString "many(-1,").length = 8 := by decide +kernel
    have e19 : (Str.ofString "many(,").length = 6 := by decide +kernel
    have e20 : (Str.ofString "many(1,").length = 7 := by decide +kernel
    have e21 : (Str.ofString ",1)").length = 3 := by decide +kernel
    have e22 : (Str.ofString "many(1, ").length = 8 := by decide +kernel
    have e23 : (Str.ofString "many(1)").length = 7 := by decide +kernel
    have e24 : (Str.ofString "many()").length = 6 := by decide +kernel
    have e25 : (Str.ofString "many(1_0,").length = 9 := by decide +kernel
    have e26 : (Str.ofString "many(+1,").length = 8 := by decide +kernel
    have e27 : (Str.ofString ")\n").length = 2 := by decide +kernel
    have e28 : (Str.ofString "\thas(").length = 5 := by decide +kernel
    have e29 : (Str.ofString "before(").length = 7 := by decide +kernel
    have e30 : (Str.ofString ", ").length = 2 := by decide +kernel
    have e31 : (Str.ofString "under()").length = 7 := by decide +kernel
    have e32 : (Str.ofString ",)").length = 2 := by decide +kernel
    have e33 : (Str.ofString "beside(").length = 7 := by decide +kernel
    have e34 : (Str.ofString "(").length = 1 := by decide +kernel
    have e35 : (Str.ofString ")has(").length = 5 := by decide +kernel
    have e36 : (Str.ofString "()").length = 2 := by decide +kernel
    have la := (mark_all ha).2.1
    have lb := (mark_all hb).2.1
    have eu : (Txt.upper a).length = a.length := by have := congrArg List.length (upper_chs ha); rw [List.length_map] at this; simpa [Str.length] using this
    refine ⟨_, (@pss_cons _ _ _ _ _ (ps_set (i := 2) sc__law_plain_odd.nd rfl (Or.inl rfl) (pe_lst (pa_cons pe_str (pa_cons pe_str (pa_cons pe_str (pa_cons pe_str (pa_cons (pe_op op_add_str pe_str (pv 0)) (pa_cons (pe_op op_add_str (pe_op op_add_str pe_str (pv 0)) pe_str) (pa_cons (pe_op op_add_str (pe_op op_add_str (pe_op op_add_str (pe_op op_add_str pe_str (pv 0)) pe_str) (pv 1)) pe_str) (pa_cons (pe_op op_add_str (pe_op op_add_str pe_str (pv 0)) pe_str) pa_nil))))))))))
      (@pss_cons _ _ _ _ _ (ps_set (i := 2) sc__law_plain_odd.nd rfl (Or.inl rfl) (pe_op op_cat (pv 2) (pe_lst (pa_cons (pe_op op_add_str (pe_op op_add_str pe_str (pv 0)) pe_str) (pa_cons (pe_op op_add_str (pe_op op_add_str pe_str (pe_bm0 PySem.F.plainAttrs_str PySem.F.slot_str_upper PySem.F.type_str_upper mt_upper (pv 0))) pe_str) (pa_cons pe_str (pa_cons pe_str (pa_cons (pe_op op_add_str (pe_op op_add_str pe_str (pv 0)) pe_str) pa_nil))))))))
      (@pss_cons _ _ _ _ _ (ps_set (i := 2) sc__law_plain_odd.nd rfl (Or.inl rfl) (pe_op op_cat (pv 2) (pe_lst (pa_cons (pe_op op_add_str (pe_op op_add_str pe_str (pv 0)) pe_str) (pa_cons (pe_op op_add_str (pe_op op_add_str (pe_op op_add_str (pe_op op_add_str pe_str (pv 0)) pe_str) (pv 1)) pe_str) (pa_cons (pe_op op_add_str (pe_op op_add_str pe_str (pv 0)) pe_str) (pa_cons (pe_op op_add_str (pe_op op_add_str pe_str (pv 0)) pe_str) pa_nil)))))))
      (@pss_cons _ _ _ _ _ (ps_set (i := 2) sc__law_plain_odd.nd rfl (Or.inl rfl) (pe_op op_cat (pv 2) (pe_lst (pa_cons (pe_op op_add_str (pe_op op_add_str pe_str (pv 0)) pe_str) (pa_cons (pe_op op_add_str (pe_op op_add_str pe_str (pv 0)) pe_str) (pa_cons (pe_op op_add_str (pe_op op_add_str pe_str (pv 0)) pe_str) (pa_cons (pe_op op_add_str (pe_op op_add_str pe_str (pv 0)) pe_str) pa_nil)))))))
      (@pss_cons _ _ _ _ _ (ps_set (i := 2) sc__law_plain_odd.nd rfl (Or.inl rfl) (pe_op op_cat (pv 2) (pe_lst (pa_cons (pe_op op_add_str (pe_op op_add_str (pe_op op_add_str (pe_op op_add_str pe_str (pv 0)) pe_str) (pv 1)) pe_str) (pa_cons (pe_op op_add_str (pe_op op_add_str pe_str (pv 0)) pe_str) (pa_cons (pe_op op_add_str (pe_op op_add_str pe_str (pv 0)) pe_str) (pa_cons pe_str (pa_cons pe_str pa_nil))))))))
      (@pss_cons _ _ _ _ _ (ps_set (i := 2) sc__law_plain_odd.nd rfl (Or.inl rfl) (pe_op op_cat (pv 2) (pe_lst (pa_cons (pe_op op_add_str (pe_op op_add_str pe_str (pv 0)) pe_str) (pa_cons (pe_op op_add_str (pe_op op_add_str pe_str (pv 0)) pe_str) (pa_cons (pe_op op_add_str (pe_op op_add_str pe_str (pv 0)) pe_str) (pa_cons (pe_op op_add_str (pe_op op_add_str pe_str (pv 0)) pe_str) pa_nil)))))))
      (@pss_cons _ _ _ _ _ (ps_set (i := 2) sc__law_plain_odd.nd rfl (Or.inl rfl) (pe_op op_cat (pv 2) (pe_lst (pa_cons (pe_op op_add_str (pe_op op_add_str pe_str (pv 0)) pe_str) (pa_cons (pe_op op_add_str (pe_op op_add_str (pe_op op_add_str (pe_op op_add_str (pe_op op_add_str (pe_op op_add_str pe_str (pv 0)) pe_str) (pv 1)) pe_str) (pv 1)) pe_str) (pa_cons (pe_op op_add_str (pe_op op_add_str (pe_op op_add_str (pe_op op_add_str pe_str (pv 0)) pe_str) (pv 1)) pe_str) pa_nil))))))
      (@pss_one _ _ _ (ps_ret (pe_op op_cat (pv 2) (pe_lst (pa_cons pe_str (pa_cons (pe_op op_add_str (pe_op op_add_str pe_str (pv 0)) pe_str) (pa_cons (pe_op op_add_str (pe_op op_add_str pe_str (pv 0)) pe_str) (pa_cons (pv 0) (pa_cons (pe_op op_add_str (pe_op op_add_str (pe_op op_add_str (pe_op op_add_str pe_str (pv 0)) pe_str) (pv 1)) pe_str) (pa_cons pe_str (pa_cons pe_str (pa_cons pe_str pa_nil))))))))))))))))))), ?_⟩
    refine tseq_open fun B hB => ?_
    and_intros
    refine ⟨(by (try simp only [Str.length_append]); rw [sizeLine_eq]; omega), (by (try simp only [Str.length_append]); rw [sizeLine_eq]; omega), (by (try simp only [Str.length_append]); rw [sizeLine_eq]; omega), (by (try simp only [Str.length_append]); rw [sizeLine_eq]; omega), (by (try simp only [Str.length_append]); rw [sizeLine_eq]; omega), (by (try simp only [Str.length_append]); rw [sizeLine_eq]; omega), (by (try simp only [Str.length_append]); rw [sizeLine_eq]; omega), (by (try simp only [Str.length_append]); rw [sizeLine_eq]; omega), (by (try simp only [Str.length_append]); rw [sizeLine_eq]; omega), by decide, fun p0 hp0 => lst_new (P := fun H1 => B _ _ H1) (xs := (poL0 a b).map V.str) hp0 fun G0 s0 f0 => ?_⟩
    subst hB
    refine tseq_open fun B hB => ?_
    and_intros
    refine ⟨(by (try simp only [Str.length_append]); rw [sizeLine_eq]; omega), (by (try simp only [Str.length_append]); rw [sizeLine_eq]; omega), rfl, ha, (by (try simp only [Str.length_append]); rw [sizeLine_eq]; omega), (by (try simp only [Str.length_append]); rw [sizeLine_eq]; omega), (by (try simp only [Str.length_append]); rw [sizeLine_eq]; omega), (by (try simp only [Str.length_append]); rw [sizeLine_eq]; omega), by decide, fun p1 hp1 => ?_⟩
    refine lst_new (P := fun H' => ∃ x, H' p0 = some (HO.lst x) ∧ ∃ y, H' p1 = some (HO.lst y) ∧ x.length + y.length ≤ sizeLine ∧ ∀ q, H' q = none → B { nx := fun x H' => Q V.non H', rt := Q } [some (V.str a), some (V.str b), some (V.ref q)] (upd H' q (HO.lst (x ++ y)))) (xs := (poL1 a b).map V.str) hp1 fun J1 t1 g1 => ⟨_, t1 _ _ f0, _, g1, Nat.le_of_lt (small1000 (by rw [List.length_map, List.length_map]; exact (show 13 ≤ 1000 by decide))), fun r1 hr1 => ?_⟩
    refine lst_new (P := fun H1 => B _ _ H1) hr1 fun G1 s1 f1 => ?_
    rw [← List.map_append] at f1
    have s1 := (s0.trans t1).trans s1
    subst hB
    refine tseq_open fun B hB => ?_
    and_intros
    refine ⟨(by (try simp only [Str.length_append]); rw [sizeLine_eq]; omega), (by (try simp only [Str.length_append]); rw [sizeLine_eq]; omega), (by (try simp only [Str.length_append]); rw [sizeLine_eq]; omega), (by (try simp only [Str.length_append]); rw [sizeLine_eq]; omega), (by (try simp only [Str.length_append]); rw [sizeLine_eq]; omega), (by (try simp only [Str.length_append]); rw [sizeLine_eq]; omega), (by (try simp only [Str.length_append]); rw [sizeLine_eq]; omega), (by (try simp only [Str.length_append]); rw [sizeLine_eq]; omega), (by (try simp only [Str.length_append]); rw [sizeLine_eq]; omega), (by (try simp only [Str.length_append]); rw [sizeLine_eq]; omega), by decide, fun p2 hp2 => ?_⟩
    refine lst_new (P := fun H' => ∃ x, H' r1 = some (HO.lst x) ∧ ∃ y, H' p2 = some (HO.lst y) ∧ x.length + y.length ≤ sizeLine ∧ ∀ q, H' q = none → B { nx := fun x H' => Q V.non H', rt := Q } [some (V.str a), some (V.str b), some (V.ref q)] (upd H' q (HO.lst (x ++ y)))) (xs := (poL2 a b).map V.str) hp2 fun J2 t2 g2 => ⟨_, t2 _ _ f1, _, g2, Nat.le_of_lt (small1000 (by rw [List.length_map, List.length_map]; exact (show 17 ≤ 1000 by decide))), fun r2 hr2 => ?_⟩
    refine lst_new (P := fun H1 => B _ _ H1) hr2 fun G2 s2 f2 => ?_
    rw [← List.map_append] at f2
    have s2 := (s1.trans t2).trans s2
    subst hB
    refine tseq_open fun B hB => ?_
    and_intros
    refine ⟨(by (try simp only [Str.length_append]); rw [sizeLine_eq]; omega), (by (try simp only [Str.length_append]); rw [sizeLine_eq]; omega), (by (try simp only [Str.length_append]); rw [sizeLine_eq]; omega), (by (try simp only [Str.length_append]); rw [sizeLine_eq]; omega), (by (try simp only [Str.length_append]); rw [sizeLine_eq]; omega), (by (try simp only [Str.length_append]); rw [sizeLine_eq]; omega), (by (try simp only [Str.length_append]); rw [sizeLine_eq]; omega), (by (try simp only [Str.length_append]); rw [sizeLine_eq]; omega), by decide, fun p3 hp3 => ?_⟩
    refine lst_new (P := fun H' => ∃ x, H' r2 = some (HO.lst x) ∧ ∃ y, H' p3 = some (HO.lst y) ∧ x.length + y.length ≤ sizeLine ∧ ∀ q, H' q = none → B { nx := fun x H' => Q V.non H', rt := Q } [some (V.str a), some (V.str b), some (V.ref q)] (upd H' q (HO.lst (x ++ y)))) (xs := (poL3 a b).map V.str) hp3 fun J3 t3 g3 => ⟨_, t3 _ _ f2, _, g3, Nat.le_of_lt (small1000 (by rw [List.length_map, List.length_map]; exact (show 21 ≤ 1000 by decide))), fun r3 hr3 => ?_⟩
    refine lst_new (P := fun H1 => B _ _ H1) hr3 fun G3 s3 f3 => ?_
    rw [← List.map_append] at f3
    have s3 := (s2.trans t3).trans s3
    subst hB
    refine tseq_open fun B hB => ?_
    and_intros
    refine ⟨(by (try simp only [Str.length_append]); rw [sizeLine_eq]; omega), (by (try simp only [Str.length_append]); rw [sizeLine_eq]; omega), (by (try simp only [Str.length_append]); rw [sizeLine_eq]; omega), (by (try simp only [Str.length_append]); rw [sizeLine_eq]; omega), (by (try simp only [Str.length_append]); rw [sizeLine_eq]; omega), (by (try simp only [Str.length_append]); rw [sizeLine_eq]; omega), (by (try simp only [Str.length_append]); rw [sizeLine_eq]; omega), (by (try simp only [Str.length_append]); rw [sizeLine_eq]; omega), by decide, fun p4 hp4 => ?_⟩
    refine lst_new (P := fun H' => ∃ x, H' r3 = some (HO.lst x) ∧ ∃ y, H' p4 = some (HO.lst y) ∧ x.length + y.length ≤ sizeLine ∧ ∀ q, H' q = none → B { nx := fun x H' => Q V.non H', rt := Q } [some (V.str a), some (V.str b), some (V.ref q)] (upd H' q (HO.lst (x ++ y)))) (xs := (poL4 a b).map V.str) hp4 fun J4 t4 g4 => ⟨_, t4 _ _ f3, _, g4, Nat.le_of_lt (small1000 (by rw [List.length_map, List.length_map]; exact (show 26 ≤ 1000 by decide))), fun r4 hr4 => ?_⟩
    refine lst_new (P := fun H1 => B _ _ H1) hr4 fun G4 s4 f4 => ?_
    rw [← List.map_append] at f4
    have s4 := (s3.trans t4).trans s4
    subst hB
    refine tseq_open fun B hB => ?_
    and_intros
    refine ⟨(by (try simp only [Str.length_append]); rw [sizeLine_eq]; omega), (by (try simp only [Str.length_append]); rw [sizeLine_eq]; omega), (by (try simp only [Str.length_append]); rw [sizeLine_eq]; omega), (by (try simp only [Str.length_append]); rw [sizeLine_eq]; omega), (by (try simp only [Str.length_append]); rw [sizeLine_eq]; omega), (by (try simp only [Str.length_append]); rw [sizeLine_eq]; omega), (by (try simp only [Str.length_append]); rw [sizeLine_eq]; omega), (by (try simp only [Str.length_append]); rw [sizeLine_eq]; omega), by decide, fun p5 hp5 => ?_⟩
    refine lst_new (P := fun H' => ∃ x, H' r4 = some (HO.lst x) ∧ ∃ y, H' p5 = some (HO.lst y) ∧ x.length + y.length ≤ sizeLine ∧ ∀ q, H' q = none → B { nx := fun x H' => Q V.non H', rt := Q } [some (V.str a), some (V.str b), some (V.ref q)] (upd H' q (HO.lst (x ++ y)))) (xs := (poL5 a b).map V.str) hp5 fun J5 t5 g5 => ⟨_, t5 _ _ f4, _, g5, Nat.le_of_lt (small1000 (by rw [List.length_map, List.length_map]; exact (show 30 ≤ 1000 by decide))), fun r5 hr5 => ?_⟩
    refine lst_new (P := fun H1 => B _ _ H1) hr5 fun G5 s5 f5 => ?_
    rw [← List.map_append] at f5
    have s5 := (s4.trans t5).trans s5
    subst hB
    refine tseq_open fun B hB => ?_
    and_intros
    refine ⟨(by (try simp only [Str.length_append]); rw [sizeLine_eq]; omega), (by (try simp only [Str.length_append]); rw [sizeLine_eq]; omega), (by (try simp only [Str.length_append]); rw [sizeLine_eq]; omega), (by (try simp only [Str.length_append]); rw [sizeLine_eq]; omega), (by (try simp only [Str.length_append]); rw [sizeLine_eq]; omega), (by (try simp only [Str.length_append]); rw [sizeLine_eq]; omega), (by (try simp only [Str.length_append]); rw [sizeLine_eq]; omega), (by (try simp only [Str.length_append]); rw [sizeLine_eq]; omega), (by (try simp only [Str.length_append]); rw [sizeLine_eq]; omega), (by (try simp only [Str.length_append]); rw [sizeLine_eq]; omega), (by (try simp only [Str.length_append]); rw [sizeLine_eq]; omega), (by (try simp only [Str.length_append]); rw [sizeLine_eq]; omega), by decide, fun p6 hp6 => ?_⟩
    refine lst_new (P := fun H' => ∃ x, H' r5 = some (HO.lst x) ∧ ∃ y, H' p6 = some (HO.lst y) ∧ x.length + y.length ≤ sizeLine ∧ ∀ q, H' q = none → B { nx := fun x H' => Q V.non H', rt := Q } [some (V.str a), some (V.str b), some (V.ref q)] (upd H' q (HO.lst (x ++ y)))) (xs := (poL6 a b).map V.str) hp6 fun J6 t6 g6 => ⟨_, t6 _ _ f5, _, g6, Nat.le_of_lt (small1000 (by rw [List.length_map, List.length_map]; exact (show 33 ≤ 1000 by decide))), fun r6 hr6 => ?_⟩
    refine lst_new (P := fun H1 => B _ _ H1) hr6 fun G6 s6 f6 => ?_
    rw [← List.map_append] at f6
    have s6 := (s5.trans t6).trans s6
    subst hB
    and_intros
    refine ⟨(by (try simp only [Str.length_append]); rw [sizeLine_eq]; omega), (by (try simp only [Str.length_append]); rw [sizeLine_eq]; omega), (by (try simp only [Str.length_append]); rw [sizeLine_eq]; omega), (by (try simp only [Str.length_append]); rw [sizeLine_eq]; omega), (by (try simp only [Str.length_append]); rw [sizeLine_eq]; omega), (by (try simp only [Str.length_append]); rw [sizeLine_eq]; omega), (by (try simp only [Str.length_append]); rw [sizeLine_eq]; omega), (by (try simp only [Str.length_append]); rw [sizeLine_eq]; omega), by decide, fun p7 hp7 => ?_⟩
    refine lst_new (P := fun H' => ∃ x, H' r6 = some (HO.lst x) ∧ ∃ y, H' p7 = some (HO.lst y) ∧ x.length + y.length ≤ sizeLine ∧ ∀ q, H' q = none → Q (V.ref q) (upd H' q (HO.lst (x ++ y)))) (xs := (poL7 a b).map V.str) hp7 fun J7 t7 g7 => ⟨_, t7 _ _ f6, _, g7, Nat.le_of_lt (small1000 (by rw [List.length_map, List.length_map]; exact (show 41 ≤ 1000 by decide))), fun r7 hr7 => ?_⟩
    exact k r7 (poL0 a b ++ poL1 a b ++ poL2 a b ++ poL3 a b ++ poL4 a b ++ poL5 a b ++ poL6 a b ++ poL7 a b) _ ((s6.trans t7).upd hr7) (by rw [upd_same, ← List.map_append]) (show 1 ≤ 41 by decide) (po_all ha hb)
theorem ok__law_group_odd {f : Addr} {fd : FuncData} (D : Def K mg "_law_group_odd" s__law_group_odd ["_law_a", "_law_b"] f fd) (T : Txt K mg ad) {f__law_wide : Addr} {fd__law_wide : FuncData} (G__law_wide : FnOk P w K mg base CX0 1 f__law_wide fd__law_wide ["_law_one", "_law_many"] sp__law_wide) (D__law_wide : Def K mg "_law_wide" s__law_wide ["_law_one", "_law_many"] f__law_wide fd__law_wide) : FnOk P w K mg base CX0 2 f fd ["_law_a", "_law_b"] sp__law_group_odd := by
  refine D.F.ok sc__law_group_odd (fun vs H Q E h => ?_) (fun cdv A outer s H vs Q E hr h => ?_)
  · obtain ⟨a, b, rfl, _⟩ := h
    rfl
  · obtain ⟨a, b, rfl, ha, hb, k⟩ := h
    have e0 : (Str.ofString ")").length = 1 := by decide +kernel
    have e1 : (Str.ofString "all(").length = 4 := by decide +kernel
    have e2 : (Str.ofString "any(").length = 4 := by decide +kernel
    have e3 : (Str.ofString "all()").length = 5 := by decide +kernel
    have e4 : (Str.ofString "not()").length = 5 := by decide +kernel
    have e5 : (Str.ofString ",").length = 1 := by decide +kernel
    have e6 : (Str.ofString "not(").length = 4 := by decide +kernel
    have e7 : (Str.ofString ",)").length = 2 := by decide +kernel
    have e8 : (Str.ofString "all(,").length = 5 := by decide +kernel
    have e9 : (Str.ofString " ").length = 1 := by decide +kernel
    have e10 : (Str.ofString "))").length = 2 := by decide +kernel
    have e11 : (Str.ofString "not").length = 3 := by decide +kernel
    have e12 : (Str.ofString "either(").length = 7 := by decide +kernel
    have e13 : (Str.ofString "(").length = 1 := by decide +kernel
    have e14 : (Str.ofString ";").length = 1 := by decide +kernel
    have e15 : (Str.ofString "has(").length = 4 := by decide +kernel
    have la := (mark_all ha).2.1
    have lb := (mark_all hb).2.1
    have j1 := jl_rep 7 (Str.ofString "has(" ++ a ++ Str.ofString ")")
    have j2 := jl_rep 7 (Str.ofString "has(" ++ b ++ Str.ofString ")")
    have lo : (Str.ofString "has(" ++ a ++ Str.ofString ")").length ≤ 13 := by simp only [Str.length_append]; omega
    have lt : (Str.ofString "has(" ++ b ++ Str.ofString ")").length ≤ 13 := by simp only [Str.length_append]; omega
    refine ⟨_, (@pss_cons _ _ _ _ _ (ps_set (i := 2) sc__law_group_odd.nd rfl (Or.inr rfl) (pe_op op_add_str (pe_op op_add_str pe_str (pv 0)) pe_str))
      (@pss_cons _ _ _ _ _ (ps_set (i := 3) sc__law_group_odd.nd rfl (Or.inr rfl) (pe_op op_add_str (pe_op op_add_str pe_str (pv 1)) pe_str))
      (@pss_cons _ _ _ _ _ (ps_set (i := 4) sc__law_group_odd.nd rfl (Or.inl rfl) (pe_lst (pa_cons (pe_op op_add_str (pe_op op_add_str pe_str (pv 2)) pe_str) (pa_cons (pe_op op_add_str (pe_op op_add_str pe_str (pv 2)) pe_str) (pa_cons pe_str (pa_cons pe_str (pa_cons (pe_op op_add_str (pe_op op_add_str (pe_op op_add_str (pe_op op_add_str pe_str (pv 2)) pe_str) (pv 3)) pe_str) pa_nil)))))))
      (@pss_cons _ _ _ _ _ (ps_set (i := 4) sc__law_group_odd.nd rfl (Or.inl rfl) (pe_op op_cat (pv 4) (pe_lst (pa_cons (pe_op op_add_str (pe_op op_add_str pe_str (pv 2)) pe_str) (pa_cons (pe_op op_add_str (pe_op op_add_str pe_str (pv 2)) pe_str) (pa_cons (pe_op op_add_str (pe_op op_add_str (pe_op op_add_str (pe_op op_add_str pe_str (pv 2)) pe_str) (pv 3)) pe_str) (pa_cons (pe_op op_add_str (pe_op op_add_str (pe_op op_add_str (pe_op op_add_str pe_str (pv 0)) pe_str) (pv 1)) pe_str) pa_nil)))))))
      (@pss_cons _ _ _ _ _ (ps_set (i := 4) sc__law_group_odd.nd rfl (Or.inl rfl) (pe_op op_cat (pv 4) (pe_lst (pa_cons (pe_op op_add_str (pe_op op_add_str (pe_op op_add_str pe_str (pv 2)) pe_str) (pv 3)) (pa_cons (pe_op op_add_str (pe_op op_add_str pe_str (pv 0)) pe_str) (pa_cons (pe_op op_add_str (pe_op op_add_str (pe_op op_add_str (pe_op op_add_str pe_str (pv 2)) pe_str) (pv 3)) pe_str) (pa_cons (pe_op op_add_str pe_str (pv 2)) pa_nil)))))))
      (@pss_cons _ _ _ _ _ (ps_set (i := 4) sc__law_group_odd.nd rfl (Or.inl rfl) (pe_op op_cat (pv 4) (pe_lst (pa_cons (pe_op op_add_str (pe_op op_add_str (pe_op op_add_str (pe_op op_add_str pe_str (pv 2)) pe_str) (pv 3)) pe_str) (pa_cons (pe_op op_add_str (pe_op op_add_str pe_str (pv 2)) pe_str) (pa_cons (pe_op op_add_str (pe_op op_add_str (pe_op op_add_str (pe_op op_add_str pe_str (pv 2)) pe_str) (pv 3)) pe_str) (pa_cons (pe_op op_add_str pe_str (pv 2)) pa_nil)))))))
      (@pss_cons _ _ _ _ _ (ps_set (i := 4) sc__law_group_odd.nd rfl (Or.inl rfl) (pe_op op_cat (pv 4) (pe_lst (pa_cons (pe_op op_add_str (pe_op op_add_str pe_str (pe_bm PySem.F.plainAttrs_str PySem.F.slot_str_join PySem.F.type_str_join mt_join pe_str (pa_cons (pe_comp (own := ["_law_k"]) (cap := ["_law_one"]) (ix := [2]) rfl (show CompScope ["_law_a", "_law_b", "_law_one", "_law_two", "_law_some"] (defScope s__law_group_odd) _ ["_law_k"] ["_law_one"] [2] from ⟨rfl, by decide +kernel, by decide +kernel, by decide +kernel, by decide +kernel, by decide +kernel, by decide +kernel, rfl, by decide +kernel⟩) (pi_range1 rfl T.range (pa_cons pe_int pa_nil)) (fun C s₀ H₀ ex pn => ⟨pg_name (i := 0) (show (["_law_k", "_law_one"] : List Str).Nodup by decide +kernel) rfl (Or.inl rfl), pifs_nil, (pv 1)⟩)) pa_nil))) pe_str) (pa_cons (pe_op op_add_str (pe_op op_add_str pe_str (pe_bm PySem.F.plainAttrs_str PySem.F.slot_str_join PySem.F.type_str_join mt_join pe_str (pa_cons (pe_comp (own := ["_law_k"]) (cap := ["_law_two"]) (ix := [3]) rfl (show CompScope ["_law_a", "_law_b", "_law_one", "_law_two", "_law_some"] (defScope s__law_group_odd) _ ["_law_k"] ["_law_two"] [3] from ⟨rfl, by decide +kernel, by decide +kernel, by decide +kernel, by decide +kernel, by decide +kernel, by decide +kernel, rfl, by decide +kernel⟩) (pi_range1 rfl T.range (pa_cons pe_int pa_nil)) (fun C s₀ H₀ ex pn => ⟨pg_name (i := 0) (show (["_law_k", "_law_two"] : List Str).Nodup by decide +kernel) rfl (Or.inl rfl), pifs_nil, (pv 1)⟩)) pa_nil))) pe_str) pa_nil)))))
      (@pss_one _ _ _ (ps_ret (pe_op op_cat (pv 4) (pe_lst (pa_cons (pe_op op_add_str (pe_op op_add_str (pe_op op_mulT pe_str pe_int) (pv 2)) (pe_op op_mulT pe_str pe_int)) (pa_cons (pe_call G__law_wide (hr.mono (by decide)) rfl D__law_wide.mg D__law_wide.F.kp D__law_wide.b .nil pass0 (pa_cons (pv 2) (pa_cons pe_int pa_nil))) (pa_cons (pe_call G__law_wide (hr.mono (by decide)) rfl D__law_wide.mg D__law_wide.F.kp D__law_wide.b .nil pass0 (pa_cons (pv 3) (pa_cons pe_int pa_nil))) pa_nil)))))))))))))), ?_⟩
    refine tseq_open fun B hB => ?_
    and_intros
    refine ⟨(by (try simp only [Str.length_append]); rw [sizeLine_eq]; omega), (by (try simp only [Str.length_append]); rw [sizeLine_eq]; omega), ?_⟩
    subst hB
    refine tseq_open fun B hB => ?_
    and_intros
    refine ⟨(by (try simp only [Str.length_append]); rw [sizeLine_eq]; omega), (by (try simp only [Str.length_append]); rw [sizeLine_eq]; omega), ?_⟩
    subst hB
    refine tseq_open fun B hB => ?_
    and_intros
    refine ⟨(by (try simp only [Str.length_append]); rw [sizeLine_eq]; omega), (by (try simp only [Str.length_append]); rw [sizeLine_eq]; omega), (by (try simp only [Str.length_append]); rw [sizeLine_eq]; omega), (by (try simp only [Str.length_append]); rw [sizeLine_eq]; omega), (by (try simp only [Str.length_append]); rw [sizeLine_eq]; omega), (by (try simp only [Str.length_append]); rw [sizeLine_eq]; omega), (by (try simp only [Str.length_append]); rw [sizeLine_eq]; omega), (by (try simp only [Str.length_append]); rw [sizeLine_eq]; omega), by decide, fun p0 hp0 => lst_new (P := fun H1 => B _ _ H1) (xs := (goL0 a b).map V.str) hp0 fun G0 s0 f0 => ?_⟩
    subst hB
    refine tseq_open fun B hB => ?_
    and_intros
    refine ⟨(by (try simp only [Str.length_append]); rw [sizeLine_eq]; omega), (by (try simp only [Str.length_append]); rw [sizeLine_eq]; omega), (by (try simp only [Str.length_append]); rw [sizeLine_eq]; omega), (by (try simp only [Str.length_append]); rw [sizeLine_eq]; omega), (by (try simp only [Str.length_append]); rw [sizeLine_eq]; omega), (by (try simp only [Str.length_append]); rw [sizeLine_eq]; omega), (by (try simp only [Str.length_append]); rw [sizeLine_eq]; omega), (by (try simp only [Str.length_append]); rw [sizeLine_eq]; omega), (by (try simp only [Str.length_append]); rw [sizeLine_eq]; omega), (by (try simp only [Str.length_append]); rw [sizeLine_eq]; omega), (by (try simp only [Str.length_append]); rw [sizeLine_eq]; omega), (by (try simp only [Str.length_append]); rw [sizeLine_eq]; omega), by decide, fun p1 hp1 => ?_⟩
    refine lst_new (P := fun H' => ∃ x, H' p0 = some (HO.lst x) ∧ ∃ y, H' p1 = some (HO.lst y) ∧ x.length + y.length ≤ sizeLine ∧ ∀ q, H' q = none → B { nx := fun x H' => Q V.non H', rt := Q } [some (V.str a), some (V.str b), some (V.str (Str.ofString "has(" ++ a ++ Str.ofString ")")), some (V.str (Str.ofString "has(" ++ b ++ Str.ofString ")")), some (V.ref q)] (upd H' q (HO.lst (x ++ y)))) (xs := (goL1 a b).map V.str) hp1 fun J1 t1 g1 => ⟨_, t1 _ _ f0, _, g1, Nat.le_of_lt (small1000 (by rw [List.length_map, List.length_map]; exact (show 9 ≤ 1000 by decide))), fun r1 hr1 => ?_⟩
    refine lst_new (P := fun H1 => B _ _ H1) hr1 fun G1 s1 f1 => ?_
    rw [← List.map_append] at f1
    have s1 := (s0.trans t1).trans s1
    subst hB
    refine tseq_open fun B hB => ?_
    and_intros
    refine ⟨(by (try simp only [Str.length_append]); rw [sizeLine_eq]; omega), (by (try simp only [Str.length_append]); rw [sizeLine_eq]; omega), (by (try simp only [Str.length_append]); rw [sizeLine_eq]; omega), (by (try simp only [Str.length_append]); rw [sizeLine_eq]; omega), (by (try simp only [Str.length_append]); rw [sizeLine_eq]; omega), (by (try simp only [Str.length_append]); rw [sizeLine_eq]; omega), (by (try simp only [Str.length_append]); rw [sizeLine_eq]; omega), (by (try simp only [Str.length_append]); rw [sizeLine_eq]; omega), (by (try simp only [Str.length_append]); rw [sizeLine_eq]; omega), (by (try simp only [Str.length_append]); rw [sizeLine_eq]; omega), by decide, fun p2 hp2 => ?_⟩
    refine lst_new (P := fun H' => ∃ x, H' r1 = some (HO.lst x) ∧ ∃ y, H' p2 = some (HO.lst y) ∧ x.length + y.length ≤ sizeLine ∧ ∀ q, H' q = none → B { nx := fun x H' => Q V.non H', rt := Q } [some (V.str a), some (V.str b), some (V.str (Str.ofString "has(" ++ a ++ Str.ofString ")")), some (V.str (Str.ofString "has(" ++ b ++ Str.ofString ")")), some (V.ref q)] (upd H' q (HO.lst (x ++ y)))) (xs := (goL2 a b).map V.str) hp2 fun J2 t2 g2 => ⟨_, t2 _ _ f1, _, g2, Nat.le_of_lt (small1000 (by rw [List.length_map, List.length_map]; exact (show 13 ≤ 1000 by decide))), fun r2 hr2 => ?_⟩
    refine lst_new (P := fun H1 => B _ _ H1) hr2 fun G2 s2 f2 => ?_
    rw [← List.map_append] at f2
    have s2 := (s1.trans t2).trans s2
    subst hB
    refine tseq_open fun B hB => ?_
    and_intros
    refine ⟨(by (try simp only [Str.length_append]); rw [sizeLine_eq]; omega), (by (try simp only [Str.length_append]); rw [sizeLine_eq]; omega), (by (try simp only [Str.length_append]); rw [sizeLine_eq]; omega), (by (try simp only [Str.length_append]); rw [sizeLine_eq]; omega), (by (try simp only [Str.length_append]); rw [sizeLine_eq]; omega), (by (try simp only [Str.length_append]); rw [sizeLine_eq]; omega), (by (try simp only [Str.length_append]); rw [sizeLine_eq]; omega), (by (try simp only [Str.length_append]); rw [sizeLine_eq]; omega), (by (try simp only [Str.length_append]); rw [sizeLine_eq]; omega), (by (try simp only [Str.length_append]); rw [sizeLine_eq]; omega), (by (try simp only [Str.length_append]); rw [sizeLine_eq]; omega), by decide, fun p3 hp3 => ?_⟩
    refine lst_new (P := fun H' => ∃ x, H' r2 = some (HO.lst x) ∧ ∃ y, H' p3 = some (HO.lst y) ∧ x.length + y.length ≤ sizeLine ∧ ∀ q, H' q = none → B { nx := fun x H' => Q V.non H', rt := Q } [some (V.str a), some (V.str b), some (V.str (Str.ofString "has(" ++ a ++ Str.ofString ")")), some (V.str (Str.ofString "has(" ++ b ++ Str.ofString ")")), some (V.ref q)] (upd H' q (HO.lst (x ++ y)))) (xs := (goL3 a b).map V.str) hp3 fun J3 t3 g3 => ⟨_, t3 _ _ f2, _, g3, Nat.le_of_lt (small1000 (by rw [List.length_map, List.length_map]; exact (show 17 ≤ 1000 by decide))), fun r3 hr3 => ?_⟩
    refine lst_new (P := fun H1 => B _ _ H1) hr3 fun G3 s3 f3 => ?_
    rw [← List.map_append] at f3
    have s3 := (s2.trans t3).trans s3
    subst hB
    refine tseq_open fun B hB => ?_
    and_intros
    refine ⟨rfl, ?_⟩
    refine tcomp_range (lo := 0) (n := 7) (H1 := G3) (fun R r => ?_) (fun i ys H' => H' = G3 ∧ ys = List.replicate i (V.str (Str.ofString "has(" ++ a ++ Str.ofString ")"))) ⟨rfl, rfl⟩ ?_ ?_
    · and_intros
      exact ⟨by decide, by decide, r⟩
    · rintro i ys H' R hi ⟨rfl, rfl⟩ hR
      simp only [tYes]
      and_intros
      exact ⟨small1000 (by rw [List.length_replicate]; omega), hR _ _ ⟨rfl, List.replicate_succ'.symm⟩⟩
    rintro ys H' ⟨eH, rfl⟩
    rw [eH]
    refine ⟨Nat.le_of_lt (small1000 (by rw [List.length_replicate]; decide)), fun La hLa => ⟨La, rfl, List.replicate 7 (Str.ofString "has(" ++ a ++ Str.ofString ")"), .inl (SqL.of (by rw [upd_same, List.map_replicate])), by decide +kernel, by rw [rep_sum, List.length_replicate]; omega, (by (try simp only [Str.length_append]); rw [sizeLine_eq]; omega), (by (try simp only [Str.length_append]); rw [sizeLine_eq]; omega), rfl, ?_⟩⟩
    have u1 := Same.put (o := .lst (List.replicate 7 (V.str (Str.ofString "has(" ++ a ++ Str.ofString ")")))) hLa
    generalize (upd G3 La (.lst (List.replicate 7 (V.str (Str.ofString "has(" ++ a ++ Str.ofString ")"))))) = U1 at u1 ⊢
    refine tcomp_range (lo := 0) (n := 7) (H1 := U1) (fun R r => ?_) (fun i ys H' => H' = U1 ∧ ys = List.replicate i (V.str (Str.ofString "has(" ++ b ++ Str.ofString ")"))) ⟨rfl, rfl⟩ ?_ ?_
    · and_intros
      exact ⟨by decide, by decide, r⟩
    · rintro i ys H' R hi ⟨rfl, rfl⟩ hR
      simp only [tYes]
      and_intros
      exact ⟨small1000 (by rw [List.length_replicate]; omega), hR _ _ ⟨rfl, List.replicate_succ'.symm⟩⟩
    rintro ys H' ⟨eH, rfl⟩
    rw [eH]
    refine ⟨Nat.le_of_lt (small1000 (by rw [List.length_replicate]; decide)), fun Lb hLb => ⟨Lb, rfl, List.replicate 7 (Str.ofString "has(" ++ b ++ Str.ofString ")"), .inl (SqL.of (by rw [upd_same, List.map_replicate])), by decide +kernel, by rw [rep_sum, List.length_replicate]; omega, (by (try simp only [Str.length_append]); rw [sizeLine_eq]; omega), (by (try simp only [Str.length_append]); rw [sizeLine_eq]; omega), by decide, fun p4 hp4 => ?_⟩⟩
    have u2 := u1.upd (o := .lst (List.replicate 7 (V.str (Str.ofString "has(" ++ b ++ Str.ofString ")")))) hLb
    generalize (upd U1 Lb (.lst (List.replicate 7 (V.str (Str.ofString "has(" ++ b ++ Str.ofString ")"))))) = U2 at u2 hp4 ⊢
    have f3 := u2 _ _ f3
    refine lst_new (P := fun H' => ∃ x, H' r3 = some (HO.lst x) ∧ ∃ y, H' p4 = some (HO.lst y) ∧ x.length + y.length ≤ sizeLine ∧ ∀ q, H' q = none → B { nx := fun x H' => Q V.non H', rt := Q } [some (V.str a), some (V.str b), some (V.str (Str.ofString "has(" ++ a ++ Str.ofString ")")), some (V.str (Str.ofString "has(" ++ b ++ Str.ofString ")")), some (V.ref q)] (upd H' q (HO.lst (x ++ y)))) (xs := (goL4 a b).map V.str) hp4 fun J4 t4 g4 => ⟨_, t4 _ _ f3, _, g4, Nat.le_of_lt (small1000 (by rw [List.length_map, List.length_map]; exact (show 19 ≤ 1000 by decide))), fun r4 hr4 => ?_⟩
    refine lst_new (P := fun H1 => B _ _ H1) hr4 fun G4 s4 f4 => ?_
    rw [← List.map_append] at f4
    have s4 := ((s3.trans u2).trans t4).trans s4
    subst hB
    have m8 : (Txt.mul (Str.ofString "not(") 8).length = 32 := by decide +kernel
    have n8 : (Txt.mul (Str.ofString ")") 8).length = 8 := by decide +kernel
    and_intros
    refine ⟨by omega, by omega, (by (try simp only [Str.length_append]); rw [sizeLine_eq]; omega), by omega, by omega, (by (try simp only [Str.length_append]); rw [sizeLine_eq]; omega), a, 3, by rw [one_is]; rfl, ha, by decide, by decide, fun V1 w1 => ⟨b, 6, by rw [one_is]; rfl, hb, by decide, by decide, fun V2 w2 => ⟨by decide, fun p5 hp5 => ?_⟩⟩⟩
    have f4 := w2 _ _ (w1 _ _ f4)
    refine lst_new (P := fun H' => ∃ x, H' r4 = some (HO.lst x) ∧ ∃ y, H' p5 = some (HO.lst y) ∧ x.length + y.length ≤ sizeLine ∧ ∀ q, H' q = none → Q (V.ref q) (upd H' q (HO.lst (x ++ y)))) (xs := (goL5 a b).map V.str) hp5 fun J5 t5 g5 => ⟨_, t5 _ _ f4, _, g5, Nat.le_of_lt (small1000 (by rw [List.length_map, List.length_map]; exact (show 22 ≤ 1000 by decide))), fun r5 hr5 => ?_⟩
    exact k r5 (goL0 a b ++ goL1 a b ++ goL2 a b ++ goL3 a b ++ goL4 a b ++ goL5 a b) _ ((((s4.trans w1).trans w2).trans t5).upd hr5) (by rw [upd_same, ← List.map_append]) (show 1 ≤ 22 by decide) (go_all ha hb)
theorem ok__law_odd {f : Addr} {fd : FuncData} (D : Def K mg "_law_odd" s__law_odd ["_law_script", "_law_cell", "_law_names_here"] f fd) (T : Txt K mg ad) {f__law_plain_odd : Addr} {fd__law_plain_odd : FuncData} (G__law_plain_odd : FnOk P w K mg base CX0 1 f__law_plain_odd fd__law_plain_odd ["_law_a", "_law_b"] sp__law_plain_odd) {f__law_group_odd : Addr} {fd__law_group_odd : FuncData} (G__law_group_odd : FnOk P w K mg base CX0 2 f__law_group_odd fd__law_group_odd ["_law_a", "_law_b"] sp__law_group_odd) {f__law_text : Addr} {fd__law_text : FuncData} (G__law_text : FnOk P w K mg base CX0 35 f__law_text fd__law_text ["_law_term_here"] (sp__law_text 34)) {f__law_term : Addr} {fd__law_term : FuncData} (G__law_term : FnOk P w K mg base CX0 2 f__law_term fd__law_term ["_law_script", "_law_begin", "_law_many", "_law_names_here"] (sp__law_term K)) (D__law_plain_odd : Def K mg "_law_plain_odd" s__law_plain_odd ["_law_a", "_law_b"] f__law_plain_odd fd__law_plain_odd) (D__law_group_odd : Def K mg "_law_group_odd" s__law_group_odd ["_law_a", "_law_b"] f__law_group_odd fd__law_group_odd) (D__law_text : Def K mg "_law_text" s__law_text ["_law_term_here"] f__law_text fd__law_text) (D__law_term : Def K mg "_law_term" s__law_term ["_law_script", "_law_begin", "_law_many", "_law_names_here"] f__law_term fd__law_term) : FnOk P w K mg base CX0 36 f fd ["_law_script", "_law_cell", "_law_names_here"] (sp__law_odd K) := by
  refine D.F.ok sc__law_odd (fun vs H Q E h => ?_) (fun cdv A outer s H vs Q E hr h => ?_)
  · obtain ⟨s, ns, c, nl, zs, rfl, _⟩ := h
    rfl
  · obtain ⟨s, ns, c, nl, zs, rfl, hS, hnl, l4, hz, k⟩ := h
    obtain ⟨za, zb, ma, mb, ea, eb⟩ : ∃ za zb, markS za = true ∧ markS zb = true ∧ atI (zs.map V.str) 0 = some (.str za) ∧ atI (zs.map V.str) 1 = some (.str zb) := by
      match zs, l4, hz with
      | [x, y, _, _], _, h => exact ⟨x, y, h x (by simp), h y (by simp), rfl, rfl⟩
    have tS : ∀ z : Str, ∃ ty, (∀ H2 : Hp, TyOf K H2 (.str z) ty) ∧ PySem.W.kitOne K ty (.type "str") = some true := fun z => ⟨_, fun H2 => .str z, by kernel_rfl⟩
    have fin : ∀ (z : Str) H', Same H H' → z.length ≤ 1000 → Ref (chs z) → Q (.str z) H' := fun z H' s h1 h2 => by
      obtain ⟨ty, t1, t2⟩ := tS z
      exact k (.str z) ty true H' s (fun H2 _ => t1 H2) t2 fun _ => ⟨z, rfl, h1, h2⟩
    have pickS : ∀ (l : Addr) (ws : List Str) (i : Int) H1, Same H H1 → 1 ≤ ws.length → (∀ x ∈ ws, x.length ≤ 1000 ∧ Ref (chs x)) → ∃ x, atI (ws.map V.str) (i % ((ws.map V.str).length : Int)) = some x ∧ Q x H1 := fun l ws i H1 s h1 h2 => by
      obtain ⟨v, hv, _, e⟩ := atI_mod (xs := ws.map V.str) (i := i) (m := ((ws.map V.str).length : Int)) (by rw [List.length_map]; omega) (Int.le_refl _)
      obtain ⟨w, hw, rfl⟩ := List.mem_map.mp hv
      exact ⟨_, e, fin w H1 s (h2 w hw).1 (h2 w hw).2⟩
    refine ⟨_, (@pss_cons _ _ _ _ _ (ps_if (pt_cmpR op_eq (pe_op op_mod (pv 1) pe_int) pe_int (nomark _))
      (@pss_cons _ _ _ _ _ (ps_set (i := 3) sc__law_odd.nd rfl (Or.inl rfl) (pe_call G__law_plain_odd (hr.mono (by decide)) rfl D__law_plain_odd.mg D__law_plain_odd.F.kp D__law_plain_odd.b .nil pass0 (pa_cons (pe_ix ix_list (pv 2) pe_int (fun _ _ => rfl)) (pa_cons (pe_ix ix_list (pv 2) pe_int (fun _ _ => rfl)) pa_nil))))
      (@pss_one _ _ _ (ps_ret (pe_ix ix_list (pv 3) (pe_op op_mod (pe_op op_fdiv (pv 1) pe_int) (pe_callB call_lenL rfl T.len PySem.boot_len (pa_cons (pv 3) pa_nil))) (fun _ _ => rfl)))))
      pss_nil)
      (@pss_cons _ _ _ _ _ (ps_if (pt_cmpR op_eq (pe_op op_mod (pv 1) pe_int) pe_int (nomark _))
      (@pss_cons _ _ _ _ _ (ps_set (i := 3) sc__law_odd.nd rfl (Or.inl rfl) (pe_call G__law_group_odd (hr.mono (by decide)) rfl D__law_group_odd.mg D__law_group_odd.F.kp D__law_group_odd.b .nil pass0 (pa_cons (pe_ix ix_list (pv 2) pe_int (fun _ _ => rfl)) (pa_cons (pe_ix ix_list (pv 2) pe_int (fun _ _ => rfl)) pa_nil))))
      (@pss_one _ _ _ (ps_ret (pe_ix ix_list (pv 3) (pe_op op_mod (pe_op op_fdiv (pv 1) pe_int) (pe_callB call_lenL rfl T.len PySem.boot_len (pa_cons (pv 3) pa_nil))) (fun _ _ => rfl)))))
      pss_nil)
      (@pss_cons _ _ _ _ _ (ps_if (pt_cmpR op_eq (pe_op op_mod (pv 1) pe_int) pe_int (nomark _))
      (@pss_cons _ _ _ _ _ (ps_set (i := 4) sc__law_odd.nd rfl (Or.inl rfl) (pe_call G__law_text (hr.mono (by decide)) rfl D__law_text.mg D__law_text.F.kp D__law_text.b .nil pass0 (pa_cons (pe_call G__law_term (hr.mono (by decide)) rfl D__law_term.mg D__law_term.F.kp D__law_term.b .nil pass0 (pa_cons (pv 0) (pa_cons pe_int (pa_cons (pe_op op_add pe_int (pe_op op_mod (pe_op op_fdiv (pv 1) pe_int) pe_int)) (pa_cons (pv 2) pa_nil))))) pa_nil)))
      (@pss_cons _ _ _ _ _ (ps_set (i := 5) sc__law_odd.nd rfl (Or.inl rfl) (pe_op op_mod (pe_op op_fdiv (pv 1) pe_int) (pe_op op_add (pe_callB call_len_str rfl T.len PySem.boot_len (pa_cons (pv 4) pa_nil)) pe_int)))
      (@pss_cons _ _ _ _ _ (ps_set (i := 6) sc__law_odd.nd rfl (Or.inl rfl) (pe_ix ix_str pe_str (pe_op op_mod (pe_op op_fdiv (pv 1) pe_int) pe_int) (fun _ _ => rfl)))
      (@pss_one _ _ _ (ps_ret (pe_op op_add_str (pe_op op_add_str (pe_slice sl_str (pv 4) po_none (po_some (pv 5))) (pv 6)) (pe_slice sl_str (pv 4) (po_some (pv 5)) po_none)))))))
      pss_nil)
      (@pss_one _ _ _ (ps_ret (pe_ix ix_list (pe_lst (pa_cons pe_non (pa_cons pe_int (pa_cons pe_bl (pa_cons (pe_tup (pa_cons pe_str pa_nil)) (pa_cons (pe_lst (pa_cons pe_str pa_nil)) (pa_cons (pe_lst pa_nil) pa_nil))))))) (pe_op op_mod (pe_op op_fdiv (pv 1) pe_int) pe_int) (fun _ _ => rfl))))))), ?_⟩
    refine tseq_open fun B hB => ?_
    and_intros
    refine ite2 (fun h0 => ?_) fun h0 => ?_
    · refine ⟨_, SqL.of hnl, _, ea, _, SqL.of hnl, _, eb, za, zb, rfl, ma, mb, fun l ws H1 s1 f1 l1 g1 => ?_⟩
      obtain ⟨x, ex, qx⟩ := pickS l ws (c / 4) H1 s1 l1 g1
      exact ⟨l, rfl, _, SqL.of f1, by rw [List.length_map]; omega, l, rfl, _, SqL.of f1, x, ex, qx⟩
    subst hB
    refine tseq_open fun B hB => ?_
    and_intros
    refine ite2 (fun h1 => ?_) fun h1 => ?_
    · refine ⟨_, SqL.of hnl, _, ea, _, SqL.of hnl, _, eb, za, zb, rfl, ma, mb, fun l ws H1 s1 f1 l1 g1 => ?_⟩
      obtain ⟨x, ex, qx⟩ := pickS l ws (c / 4) H1 s1 l1 g1
      exact ⟨l, rfl, _, SqL.of f1, by rw [List.length_map]; omega, l, rfl, _, SqL.of f1, x, ex, qx⟩
    subst hB
    refine tseq_open fun B hB => ?_
    and_intros
    refine ite2 (fun h2 => ?_) fun h2 => ?_
    · obtain ⟨m2, em2⟩ := Int.eq_ofNat_of_zero_le (show 0 ≤ 1 + c / 4 % 5 by have := Int.emod_nonneg (c / 4) (show (5 : Int) ≠ 0 by decide); omega)
      have q7 := Int.emod_lt_of_pos (c / 4) (show (0 : Int) < 5 by decide)
      have q0 := Int.emod_nonneg (c / 4) (show (5 : Int) ≠ 0 by decide)
      rw [em2]
      refine ⟨s, nl, ns, 3, m2, zs, rfl, hS, by omega, by omega, hnl, by omega, by omega, hz, fun v tm H1 s1 ht rd sz dp => ⟨v, tm, rfl, ht, rd_ok tm rd, by omega, by omega, fun H2 s2 => ?_⟩⟩
      have l30 := text30 tm rd
      obtain ⟨c0, hc0, e0⟩ := at_str (z := Str.ofString "!#$ .;:[]{}<>=+*/|~^@&_-AZ\n\t") (i := c / 4) (m := 28) (by decide) (by decide +kernel)
      have sa := Txt.slice_le (textT tm) none (some (c / 20 % (((textT tm).length : Int) + 1)))
      have sb := Txt.slice_le (textT tm) (some (c / 20 % (((textT tm).length : Int) + 1))) none
      obtain ⟨n1, n2, n3, n4, n5⟩ := signs_no c0 hc0
      have o1 : (⟨#[c0]⟩ : Str).length = 1 := rfl
      refine ⟨_, rfl, by rw [sizeLine_eq]; omega, by omega, by decide +kernel, c0, e0, _, rfl, by rw [sizeLine_eq]; omega, by rw [sizeLine_eq]; omega, _, rfl, by rw [sizeLine_eq]; omega, by rw [sizeLine_eq, Str.length_append]; omega, fin _ H2 (s1.trans s2) (by rw [Str.length_append, Str.length_append]; omega) (ref_sign (c := c0) ?_ n1 n2 n3 n4 n5)⟩
      rw [chs_app, chs_app]
      exact List.mem_append_left _ (List.mem_append_right _ List.mem_cons_self)
    subst hB
    and_intros
    refine ⟨by decide, fun p hp => ⟨by decide, fun p1 hp1 => ⟨by decide, fun p2 hp2 => ⟨by decide, fun p3 hp3 => ?_⟩⟩⟩⟩
    have t1 := Same.put (o := .tup [V.str (Str.ofString "has(a)")]) hp
    have f1 : (upd H p (.tup [V.str (Str.ofString "has(a)")])) p = some (.tup [V.str (Str.ofString "has(a)")]) := upd_same
    generalize (upd H p (.tup [V.str (Str.ofString "has(a)")])) = H1 at t1 f1 hp1 hp2 hp3 ⊢
    have t2 := Same.put (o := .lst [V.str (Str.ofString "has(a)")]) hp1
    have f2 : (upd H1 p1 (.lst [V.str (Str.ofString "has(a)")])) p1 = some (.lst [V.str (Str.ofString "has(a)")]) := upd_same
    generalize (upd H1 p1 (.lst [V.str (Str.ofString "has(a)")])) = H2 at t2 f2 hp2 hp3 ⊢
    have t3 := Same.put (o := .lst []) hp2
    have f3 : (upd H2 p2 (.lst [])) p2 = some (.lst []) := upd_same
    generalize (upd H2 p2 (.lst [])) = H3 at t3 f3 hp3 ⊢
    have t4 := Same.put (o := .lst [V.non, V.int 7, V.bl true, V.ref p, V.ref p1, V.ref p2]) hp3
    obtain ⟨v, hv, _, e⟩ := atI_mod (xs := ([V.non, V.int 7, V.bl true, V.ref p, V.ref p1, V.ref p2] : List V)) (i := c / 4) (m := 6) (by decide) (Int.le_refl _)
    refine ⟨_, SqL.of upd_same, v, e, ?_⟩
    have sA := ((t1.trans t2).trans t3).trans t4
    simp only [List.mem_cons, List.not_mem_nil, or_false] at hv
    rcases hv with rfl | rfl | rfl | rfl | rfl | rfl
    · exact k _ _ false _ sA (fun H5 s5 => .non) (by kernel_rfl) nofun
    · exact k _ _ false _ sA (fun H5 s5 => .int 7) (by kernel_rfl) nofun
    · exact k _ _ false _ sA (fun H5 s5 => .bl true) (by kernel_rfl) nofun
    · exact k _ _ false _ sA (fun H5 s5 => .tup (s5 _ _ (t4 _ _ (t3 _ _ (t2 _ _ f1))))) (by kernel_rfl) nofun
    · exact k _ _ false _ sA (fun H5 s5 => .lst (s5 _ _ (t4 _ _ (t3 _ _ f2)))) (by kernel_rfl) nofun
    · exact k _ _ false _ sA (fun H5 s5 => .lst (s5 _ _ (t4 _ _ f3))) (by kernel_rfl) nofun
theorem ok_law {f : Addr} {fd : FuncData} (D : Def K mg "law" s_law ["_law_script"] f fd) (T : Txt K mg ad) {f__law_names : Addr} {fd__law_names : FuncData} (G__law_names : FnOk P w K mg base CX0 1 f__law_names fd__law_names ["_law_cell", "_law_many"] sp__law_names) {f__law_cell_at : Addr} {fd__law_cell_at : FuncData} (G__law_cell_at : FnOk P w K mg base CX0 1 f__law_cell_at fd__law_cell_at ["_law_script", "_law_k"] (sp__law_cell_at K)) {f__law_refused : Addr} {fd__law_refused : FuncData} (G__law_refused : FnOk P w K mg base CX0 41 f__law_refused fd__law_refused ["_law_text_here"] (sp__law_refused K)) {f__law_odd : Addr} {fd__law_odd : FuncData} (G__law_odd : FnOk P w K mg base CX0 36 f__law_odd fd__law_odd ["_law_script", "_law_cell", "_law_names_here"] (sp__law_odd K)) {f__law_wide : Addr} {fd__law_wide : FuncData} (G__law_wide : FnOk P w K mg base CX0 1 f__law_wide fd__law_wide ["_law_one", "_law_many"] sp__law_wide) {f_read_fault : Addr} {fd_read_fault : FuncData} (G_read_fault : FnOk P w K mg base (CX1 P w) 40 f_read_fault fd_read_fault ["text"] (sp_read_fault K ad)) {f_Has_shown : Addr} {fd_Has_shown : FuncData} (G_Has_shown : FnOk P w K mg base CX0 2 f_Has_shown fd_Has_shown ["self"] (sp_Has_shown ad)) {f_Many_shown : Addr} {fd_Many_shown : FuncData} (G_Many_shown : FnOk P w K mg base CX0 2 f_Many_shown fd_Many_shown ["self"] (sp_Many_shown ad)) {f_Before_shown : Addr} {fd_Before_shown : FuncData} (G_Before_shown : FnOk P w K mg base CX0 2 f_Before_shown fd_Before_shown ["self"] (sp_Before_shown ad)) {f_Under_shown : Addr} {fd_Under_shown : FuncData} (G_Under_shown : FnOk P w K mg base CX0 2 f_Under_shown fd_Under_shown ["self"] (sp_Under_shown ad)) {f_Beside_shown : Addr} {fd_Beside_shown : FuncData} (G_Beside_shown : FnOk P w K mg base CX0 2 f_Beside_shown fd_Beside_shown ["self"] (sp_Beside_shown ad)) {f_All_shown : Addr} {fd_All_shown : FuncData} (G_All_shown : FnOk P w K mg base CX0 37 f_All_shown fd_All_shown ["self"] (sp_All_shown ad 34)) {f_Any_shown : Addr} {fd_Any_shown : FuncData} (G_Any_shown : FnOk P w K mg base CX0 37 f_Any_shown fd_Any_shown ["self"] (sp_Any_shown ad 34)) {f_Not_shown : Addr} {fd_Not_shown : FuncData} (G_Not_shown : FnOk P w K mg base CX0 37 f_Not_shown fd_Not_shown ["self"] (sp_Not_shown ad 34)) (D__law_names : Def K mg "_law_names" s__law_names ["_law_cell", "_law_many"] f__law_names fd__law_names) (D__law_cell_at : Def K mg "_law_cell_at" s__law_cell_at ["_law_script", "_law_k"] f__law_cell_at fd__law_cell_at) (D__law_refused : Def K mg "_law_refused" s__law_refused ["_law_text_here"] f__law_refused fd__law_refused) (D__law_odd : Def K mg "_law_odd" s__law_odd ["_law_script", "_law_cell", "_law_names_here"] f__law_odd fd__law_odd) (D__law_wide : Def K mg "_law_wide" s__law_wide ["_law_one", "_law_many"] f__law_wide fd__law_wide) (D_read_fault : Def K mg "read_fault" s_read_fault ["text"] f_read_fault fd_read_fault) (B_Has_shown : Binds K fd_Has_shown ["self"] []) (B_Many_shown : Binds K fd_Many_shown ["self"] []) (B_Before_shown : Binds K fd_Before_shown ["self"] []) (B_Under_shown : Binds K fd_Under_shown ["self"] []) (B_Beside_shown : Binds K fd_Beside_shown ["self"] []) (B_All_shown : Binds K fd_All_shown ["self"] []) (B_Any_shown : Binds K fd_Any_shown ["self"] []) (B_Not_shown : Binds K fd_Not_shown ["self"] []) (ME_Has_shown : Meth K ad.Has "shown" f_Has_shown) (ME_Many_shown : Meth K ad.Many "shown" f_Many_shown) (ME_Before_shown : Meth K ad.Before "shown" f_Before_shown) (ME_Under_shown : Meth K ad.Under "shown" f_Under_shown) (ME_Beside_shown : Meth K ad.Beside "shown" f_Beside_shown) (ME_All_shown : Meth K ad.All "shown" f_All_shown) (ME_Any_shown : Meth K ad.Any "shown" f_Any_shown) (ME_Not_shown : Meth K ad.Not "shown" f_Not_shown) : FnOk P w K mg base CX0 42 f fd ["_law_script"] (sp_law K) := by
  refine D.F.ok sc_law (fun vs H Q E h => ?_) (fun cdv A outer s H vs Q E hr h => ?_)
  · obtain ⟨a, ns, rfl, _⟩ := h
    rfl
  · obtain ⟨a, ns, rfl, hS, hn, k⟩ := h
    refine ⟨_, (@pss_cons _ _ _ _ _ (ps_set (i := 1) sc_law.nd rfl (Or.inl rfl) (pe_call G__law_names (hr.mono (by decide)) rfl D__law_names.mg D__law_names.F.kp D__law_names.b .nil pass0 (pa_cons (pe_call G__law_cell_at (hr.mono (by decide)) rfl D__law_cell_at.mg D__law_cell_at.F.kp D__law_cell_at.b .nil pass0 (pa_cons (pv 0) (pa_cons pe_int pa_nil))) (pa_cons pe_int pa_nil))))
      (@pss_cons _ _ _ _ _ (ps_set (i := 2) sc_law.nd rfl (Or.inl rfl) (pe_op op_add_str (pe_op op_add_str pe_str (pe_ix ix_list (pv 1) pe_int (fun _ _ => rfl))) pe_str))
      (@pss_cons _ _ _ _ _ (ps_for PassesOwn.never rfl (pi_range1 rfl T.range (pa_cons (pe_op op_add pe_int (pe_callB call_lenL rfl T.len PySem.boot_len (pa_cons (pe_slice sl_list (pv 0) (po_some pe_int) (po_some pe_int)) pa_nil))) pa_nil)) (pg_name (i := 3) sc_law.nd rfl (Or.inl rfl))
      (@pss_one _ _ _ (ps_if (pt_not (pt_val (pe_call G__law_refused (hr.mono (by decide)) rfl D__law_refused.mg D__law_refused.F.kp D__law_refused.b .nil pass0 (pa_cons (pe_call G__law_odd (hr.mono (by decide)) rfl D__law_odd.mg D__law_odd.F.kp D__law_odd.b .nil pass0 (pa_cons (pv 0) (pa_cons (pe_op op_add (pe_call G__law_cell_at (hr.mono (by decide)) rfl D__law_cell_at.mg D__law_cell_at.F.kp D__law_cell_at.b .nil pass0 (pa_cons (pv 0) (pa_cons (pe_op op_add pe_int (pv 3)) pa_nil))) (pe_op op_mul pe_int (pv 3))) (pa_cons (pv 1) pa_nil)))) pa_nil))))
      (@pss_one _ _ _ (ps_ret pe_bl))
      pss_nil)))
      (@pss_cons _ _ _ _ _ (ps_set (i := 4) sc_law.nd rfl (Or.inl rfl) (pe_op op_add_str (pe_op op_add_str (pe_op op_mulT pe_str pe_int) (pv 2)) (pe_op op_mulT pe_str pe_int)))
      (@pss_cons _ _ _ _ _ (ps_set (i := 5) sc_law.nd rfl (Or.inl rfl) (pe_call G__law_wide (hr.mono (by decide)) rfl D__law_wide.mg D__law_wide.F.kp D__law_wide.b .nil pass0 (pa_cons (pv 2) (pa_cons pe_int pa_nil))))
      (@pss_one _ _ _ (ps_ret (pe_and (pe_cmpR op_eq (pe_either (pe_either (pe_either (pe_either (pe_either (pe_either (pe_either (pe_meth0 (pe_call G_read_fault (hr.mono (by decide)) rfl D_read_fault.mg D_read_fault.F.kp D_read_fault.b .nil passE (pa_cons (pv 4) pa_nil)) T.cl_Has ME_Has_shown G_Has_shown (hr.mono (by decide)) B_Has_shown .nil pass0) (pe_meth0 (pe_call G_read_fault (hr.mono (by decide)) rfl D_read_fault.mg D_read_fault.F.kp D_read_fault.b .nil passE (pa_cons (pv 4) pa_nil)) T.cl_Many ME_Many_shown G_Many_shown (hr.mono (by decide)) B_Many_shown .nil pass0)) (pe_meth0 (pe_call G_read_fault (hr.mono (by decide)) rfl D_read_fault.mg D_read_fault.F.kp D_read_fault.b .nil passE (pa_cons (pv 4) pa_nil)) T.cl_Before ME_Before_shown G_Before_shown (hr.mono (by decide)) B_Before_shown .nil pass0)) (pe_meth0 (pe_call G_read_fault (hr.mono (by decide)) rfl D_read_fault.mg D_read_fault.F.kp D_read_fault.b .nil passE (pa_cons (pv 4) pa_nil)) T.cl_Under ME_Under_shown G_Under_shown (hr.mono (by decide)) B_Under_shown .nil pass0)) (pe_meth0 (pe_call G_read_fault (hr.mono (by decide)) rfl D_read_fault.mg D_read_fault.F.kp D_read_fault.b .nil passE (pa_cons (pv 4) pa_nil)) T.cl_Beside ME_Beside_shown G_Beside_shown (hr.mono (by decide)) B_Beside_shown .nil pass0)) (pe_meth0 (pe_call G_read_fault (hr.mono (by decide)) rfl D_read_fault.mg D_read_fault.F.kp D_read_fault.b .nil passE (pa_cons (pv 4) pa_nil)) T.cl_All ME_All_shown G_All_shown (hr.mono (by decide)) B_All_shown .nil pass0)) (pe_meth0 (pe_call G_read_fault (hr.mono (by decide)) rfl D_read_fault.mg D_read_fault.F.kp D_read_fault.b .nil passE (pa_cons (pv 4) pa_nil)) T.cl_Any ME_Any_shown G_Any_shown (hr.mono (by decide)) B_Any_shown .nil pass0)) (pe_meth0 (pe_call G_read_fault (hr.mono (by decide)) rfl D_read_fault.mg D_read_fault.F.kp D_read_fault.b .nil passE (pa_cons (pv 4) pa_nil)) T.cl_Not ME_Not_shown G_Not_shown (hr.mono (by decide)) B_Not_shown .nil pass0)) (pv 4) (nomark _)) (pe_one (pe_cmpR op_eq (pe_either (pe_either (pe_either (pe_either (pe_either (pe_either (pe_either (pe_meth0 (pe_call G_read_fault (hr.mono (by decide)) rfl D_read_fault.mg D_read_fault.F.kp D_read_fault.b .nil passE (pa_cons (pv 5) pa_nil)) T.cl_Has ME_Has_shown G_Has_shown (hr.mono (by decide)) B_Has_shown .nil pass0) (pe_meth0 (pe_call G_read_fault (hr.mono (by decide)) rfl D_read_fault.mg D_read_fault.F.kp D_read_fault.b .nil passE (pa_cons (pv 5) pa_nil)) T.cl_Many ME_Many_shown G_Many_shown (hr.mono (by decide)) B_Many_shown .nil pass0)) (pe_meth0 (pe_call G_read_fault (hr.mono (by decide)) rfl D_read_fault.mg D_read_fault.F.kp D_read_fault.b .nil passE (pa_cons (pv 5) pa_nil)) T.cl_Before ME_Before_shown G_Before_shown (hr.mono (by decide)) B_Before_shown .nil pass0)) (pe_meth0 (pe_call G_read_fault (hr.mono (by decide)) rfl D_read_fault.mg D_read_fault.F.kp D_read_fault.b .nil passE (pa_cons (pv 5) pa_nil)) T.cl_Under ME_Under_shown G_Under_shown (hr.mono (by decide)) B_Under_shown .nil pass0)) (pe_meth0 (pe_call G_read_fault (hr.mono (by decide)) rfl D_read_fault.mg D_read_fault.F.kp D_read_fault.b .nil passE (pa_cons (pv 5) pa_nil)) T.cl_Beside ME_Beside_shown G_Beside_shown (hr.mono (by decide)) B_Beside_shown .nil pass0)) (pe_meth0 (pe_call G_read_fault (hr.mono (by decide)) rfl D_read_fault.mg D_read_fault.F.kp D_read_fault.b .nil passE (pa_cons (pv 5) pa_nil)) T.cl_All ME_All_shown G_All_shown (hr.mono (by decide)) B_All_shown .nil pass0)) (pe_meth0 (pe_call G_read_fault (hr.mono (by decide)) rfl D_read_fault.mg D_read_fault.F.kp D_read_fault.b .nil passE (pa_cons (pv 5) pa_nil)) T.cl_Any ME_Any_shown G_Any_shown (hr.mono (by decide)) B_Any_shown .nil pass0)) (pe_meth0 (pe_call G_read_fault (hr.mono (by decide)) rfl D_read_fault.mg D_read_fault.F.kp D_read_fault.b .nil passE (pa_cons (pv 5) pa_nil)) T.cl_Not ME_Not_shown G_Not_shown (hr.mono (by decide)) B_Not_shown .nil pass0)) (pv 5) (nomark _))))))))))), ?_⟩
    have h4 : (Str.ofString "has(").length = 4 := by decide +kernel
    have h1' : (Str.ofString ")").length = 1 := by decide +kernel
    refine tseq_open fun B hB => ?_
    and_intros
    refine ⟨a, ns, 0, rfl, hS, fun c => ⟨c, 4, rfl, by decide, fun zs nl H1 lzs hz s1 h1 => ?_⟩⟩
    obtain ⟨z0, m0, ez0⟩ : ∃ z, markS z = true ∧ atI (zs.map V.str) 0 = some (.str z) := by
      match zs, lzs, hz with
      | [x, _, _, _], _, h => exact ⟨x, h x (by simp), rfl⟩
    have la := (mark_all m0).2.1
    subst hB
    refine tseq_open fun B hB => ?_
    and_intros
    refine ⟨_, SqL.of h1, _, ez0, z0, rfl, by rw [sizeLine_eq]; omega, by rw [sizeLine_eq, Str.length_append]; omega, ?_⟩
    rw [one_is]
    have l13 := one_len13 m0
    have rh : rdT (.has z0) := by unfold rdT; exact m0
    have hS1 := hS.same s1
    subst hB
    refine tseq_open fun B hB => ?_
    refine (show tFor _ _ _ _ _ _ from ?_)
    refine (show iRng1 _ _ _ _ from ?_)
    refine split_it (fun J H3 => Same H1 H3 ∧ ∃ n : Nat, n ≤ 100 ∧ J = Itr 0 n) (fun G hG => ?_) ?_
    · and_intros
      have lc : (cutV (ns.map V.int) (some 2) (some 22)).length ≤ 63 := by
        unfold cutV
        rw [List.length_take, List.length_drop, List.length_map]
        omega
      refine ⟨_, hS1, fun p hp => ⟨_, SqL.of upd_same, by omega, by omega, hG _ _ ⟨Same.put hp, _, by omega, rfl⟩⟩⟩
    rintro _ H2 ⟨s2, n, hn100, rfl⟩
    have hS2 := hS1.same s2
    have h12 := s2 _ _ h1
    refine for_range (n := n) (fun i σ H' => Same H2 H' ∧ ∃ o3 : Option V, StIs σ [some (.ref a), some (.ref nl), some (.str (textT (.has z0))), o3, none, none]) ⟨Same.refl _, none, StIs.rfl⟩ ?_ ?_
    · rintro i σ H' hi ⟨s3, o3, rfl⟩
      and_intros
      refine ⟨a, ns, 1 + i, by rw [show (1 + (0 + (i : Int))) = ((1 + i : Nat) : Int) by omega], hS2.same s3, fun c1 => ⟨.inl ⟨by decide, by decide⟩, c1, rfl, a, ns, _, nl, zs, rfl, hS2.same s3, s3 _ _ h12, lzs, hz, fun v ty b H4 s4 t1 t2 t3 => ⟨v, ty, b, rfl, t1, t2, t3, fun H5 s5 => ⟨true, rfl, ?_⟩⟩⟩⟩
      rw [if_neg (by decide)]
      exact ⟨(s3.trans s4).trans s5, _, StIs.rfl⟩
    rintro σ H3 ⟨s3, o3, rfl⟩
    dsimp only
    subst hB
    have m7 : (Txt.mul (Str.ofString "not(") 7).length = 28 := by decide +kernel
    have n7 : (Txt.mul (Str.ofString ")") 7).length = 7 := by decide +kernel
    have h5 : (Str.ofString "not(").length = 4 := by decide +kernel
    refine tseq_open fun B hB => ?_
    and_intros
    refine ⟨by omega, by omega, by rw [sizeLine_eq]; omega, by omega, by omega, by rw [sizeLine_eq, Str.length_append]; omega, ?_⟩
    rw [nots7]
    subst hB
    refine tseq_open fun B hB => ?_
    and_intros
    refine ⟨z0, 2, rfl, m0, by decide, by decide, fun H4 s4 => ?_⟩
    have rf : ∀ (t : Tm) (H0 : Hp) {Q' : VK} {E' : XK}, rdT t → dpT t < 8 → szT t ≤ 60 → (textT t).length ≤ 1000 → (∀ u H1, Same H0 H1 → FtAt ad H1 u t → Q' u H1) → sp_read_fault K ad [.str (textT t)] H0 Q' E' := fun t H0 Q' E' rd dp sz ln h => by
      have e0 := next_of 60 8 t [] 0 rd dp (by omega)
      rw [List.append_nil] at e0
      refine ⟨_, _, true, rfl, .str _, by kernel_rfl, nofun, fun _ => ⟨textT t, rfl, ln, fun tm n e u H1 s1 f1 => ?_, fun hR => absurd e0 (hR t _)⟩⟩
      have := (Prod.mk.inj (Option.some.inj (e0.symm.trans e))).1
      rw [this] at h
      exact h u H1 s1 f1
    have r7 := nots_rd rh 7
    have z7 := nots_sz (.has z0) 7
    have d7 := nots_dp (.has z0) 7
    have t7 := text30 _ r7
    rw [show szT (.has z0) = 1 by unfold szT; rfl] at z7
    rw [show dpT (.has z0) = 0 by unfold dpT; rfl] at d7
    have rw2 := wide_rd m0 (show 2 ≤ 2 by decide) (show 2 ≤ 6 by decide)
    have zw := wide_sz z0 2
    have dw := wide_dp z0 2
    have lw := wide_len m0 (show 2 ≤ 6 by decide)
    subst hB
    simp only [tRet]
    refine andV_open (fun x H1 => x = .bl true ∧ Same H4 H1) (fun Q' hQ => ?_) (fun x H1 ⟨ex, s⟩ => ⟨true, ex, ?_⟩)
    · refine op_open (fun x H1 => x = .str (textT (nots 7 (.has z0))) ∧ Same H4 H1) (fun Q2 hQ2 => ?_) (fun x H1 ⟨ex, s⟩ => ?_)
      · and_intros
        refine .inr (rf _ H4 r7 (by omega) (by omega) (by omega) fun u H5 s5 f5 => ?_)
        have f6 := f5
        have f5 : FtAt ad H5 u (.not (nots 6 (.has z0))) := f5
        unfold FtAt at f5
        obtain ⟨p, dx, y, rfl, hp, _⟩ := f5
        exact ⟨p, rfl, dx, _, hp, lookup_1 (by decide +kernel), p, nots 7 (.has z0), rfl, List.mem_singleton.mpr rfl, by omega, f6, rd_ok _ r7, by omega, fun H6 s6 => hQ2 _ _ ⟨rfl, s5.trans s6⟩⟩
      · rw [ex]
        and_intros
        exact hQ _ _ ⟨congrArg V.bl (decide_eq_true trivial), s⟩
    · rw [if_pos rfl]
      refine op_open (fun x H2 => x = .str (textT (wideT z0 2)) ∧ Same H1 H2) (fun Q2 hQ2 => ?_) (fun x H2 ⟨ex, s⟩ => ?_)
      · and_intros
        refine .inl (.inl (.inr (rf _ H1 rw2 (by omega) (by omega) lw fun u H5 s5 f5 => ?_)))
        have f6 := f5
        have f5 : FtAt ad H5 u (.joint true [.joint true (List.replicate 6 (.joint false (List.replicate 6 (.has z0)))), wideL z0 2]) := f5
        unfold FtAt at f5
        obtain ⟨p, dx, t0, ys, rfl, hp, _⟩ := f5
        exact ⟨p, rfl, dx, _, hp, lookup_1 (by decide +kernel), p, wideT z0 2, rfl, List.mem_singleton.mpr rfl, by omega, f6, rd_ok _ rw2, by omega, fun H6 s6 => hQ2 _ _ ⟨rfl, s5.trans s6⟩⟩
      · rw [ex]
        and_intros
        rw [show decide True = true from decide_eq_true trivial]
        exact k _
end
def Lies (K : PySem.W.Frag) (f : Addr) (x d : Str) (st : Stmt) (fd : FuncData) : Prop := ∃ oc od kV dc pm an cd ct sl, fd = PySem.W.fnOf x d (defArgs st) (defBody st) (defScope st) .none kV dc pm an cd ct ∧ K.lookup f = some ⟨oc, od, .func fd, sl⟩ ∧ PySem.W.codeIn K cd d = true ∧ PySem.W.keepIn K (.ref f) = true ∧ PySem.W.isFn K (.ref f) = true
theorem Lies.fn {K : PySem.W.Frag} {f : Addr} {x d : Str} {st : Stmt} {fd : FuncData} (h : Lies K f x d st fd) : Fun K x d st f fd := by
  obtain ⟨oc, od, kV, dc, pm, an, cd, ct, sl, rfl, l, c, k, _⟩ := h
  exact fun_mk l c k
theorem Lies.kp {K : PySem.W.Frag} {f : Addr} {x d : Str} {st : Stmt} {fd : FuncData} (h : Lies K f x d st fd) : PySem.W.keepIn K (.ref f) = true := let ⟨_, _, _, _, _, _, _, _, _, _, _, _, k, _⟩ := h; k
theorem Lies.isf {K : PySem.W.Frag} {f : Addr} {x d : Str} {st : Stmt} {fd : FuncData} (h : Lies K f x d st fd) : PySem.W.isFn K (.ref f) = true := let ⟨_, _, _, _, _, _, _, _, _, _, _, _, _, n⟩ := h; n
theorem all_mk {l : PySem.W.OpenLaw} {w : World} {K : PySem.W.Frag} {h : Heap} {mg : Str → Option Value} {fa C_ShrinkError C_NoThing C_NoFault C_NoText C_NoRow C_Fault C_Has C_Many C_Pair C_Before C_Under C_Beside C_Joint C_All C_Any C_Not C_Reader f_written f_Has_init f_Has_shown f_Many_init f_Many_shown f_Pair_init f_Before_shown f_Under_shown f_Beside_shown f_Joint_init f_All_shown f_Any_shown f_Not_init f_Not_shown f_is_mark f_pair_fault f_Reader_init f_Reader_is_at_end f_Reader_is_at f_Reader_read_sign f_Reader_read_run f_Reader_read_mark f_Reader_read_number f_Reader_read_next f_Reader_read_inside f_Reader_read_many f_Reader_read_pair f_Reader_read_parts f_read_fault f__law_cell_at f__law_names f__law_leaf f__law_term f__law_text f__law_refused f__law_wide f__law_plain_odd f__law_group_odd f__law_odd f_law : Addr} (X : K.In h) (G : h.Ns mainGlobals mg) (hfa : mg "law" = some (.ref fa))
    {fd_written fd_Has_init fd_Has_shown fd_Many_init fd_Many_shown fd_Pair_init fd_Before_shown fd_Under_shown fd_Beside_shown fd_Joint_init fd_All_shown fd_Any_shown fd_Not_init fd_Not_shown fd_is_mark fd_pair_fault fd_Reader_init fd_Reader_is_at_end fd_Reader_is_at fd_Reader_read_sign fd_Reader_read_run fd_Reader_read_mark fd_Reader_read_number fd_Reader_read_next fd_Reader_read_inside fd_Reader_read_many fd_Reader_read_pair fd_Reader_read_parts fd_read_fault fd__law_cell_at fd__law_names fd__law_leaf fd__law_term fd__law_text fd__law_refused fd__law_wide fd__law_plain_odd fd__law_group_odd fd__law_odd fd_law : FuncData} {tk_LETTERS tk_LONGEST_MARK tk_FIGURES tk_MOST_FIGURES tk_FEWEST_PARTS tk_MOST_PARTS tk_DEEPEST tk_MOST_FAULTS : Tok} {cd_NoFault : ClassData}
    (a_ShrinkError : PySem.W.nsIn K mainGlobals "ShrinkError" = some (some (.ref C_ShrinkError)))
    (a_NoThing : PySem.W.nsIn K mainGlobals "NoThing" = some (some (.ref C_NoThing)))
    (a_NoFault : PySem.W.nsIn K mainGlobals "NoFault" = some (some (.ref C_NoFault)))
    (a_NoText : PySem.W.nsIn K mainGlobals "NoText" = some (some (.ref C_NoText)))
    (a_NoRow : PySem.W.nsIn K mainGlobals "NoRow" = some (some (.ref C_NoRow)))
    (a_Fault : PySem.W.nsIn K mainGlobals "Fault" = some (some (.ref C_Fault)))
    (a_Has : PySem.W.nsIn K mainGlobals "Has" = some (some (.ref C_Has)))
    (a_Many : PySem.W.nsIn K mainGlobals "Many" = some (some (.ref C_Many)))
    (a_Pair : PySem.W.nsIn K mainGlobals "Pair" = some (some (.ref C_Pair)))
    (a_Before : PySem.W.nsIn K mainGlobals "Before" = some (some (.ref C_Before)))
    (a_Under : PySem.W.nsIn K mainGlobals "Under" = some (some (.ref C_Under)))
    (a_Beside : PySem.W.nsIn K mainGlobals "Beside" = some (some (.ref C_Beside)))
    (a_Joint : PySem.W.nsIn K mainGlobals "Joint" = some (some (.ref C_Joint)))
    (a_All : PySem.W.nsIn K mainGlobals "All" = some (some (.ref C_All)))
    (a_Any : PySem.W.nsIn K mainGlobals "Any" = some (some (.ref C_Any)))
    (a_Not : PySem.W.nsIn K mainGlobals "Not" = some (some (.ref C_Not)))
    (a_Reader : PySem.W.nsIn K mainGlobals "Reader" = some (some (.ref C_Reader)))
    (a_written : PySem.W.nsIn K mainGlobals "written" = some (some (.ref f_written)))
    (l_written : Lies K f_written "written" "written" s_written fd_written)
    (l_Has_init : Lies K f_Has_init "__init__" "Has.__init__" s_Has_init fd_Has_init)
    (i_Has_shown : PySem.W.findIn K (.ref C_Has) "shown" = some (some (.ref f_Has_shown)))
    (l_Has_shown : Lies K f_Has_shown "shown" "Has.shown" s_Has_shown fd_Has_shown)
    (l_Many_init : Lies K f_Many_init "__init__" "Many.__init__" s_Many_init fd_Many_init)
    (i_Many_shown : PySem.W.findIn K (.ref C_Many) "shown" = some (some (.ref f_Many_shown)))
    (l_Many_shown : Lies K f_Many_shown "shown" "Many.shown" s_Many_shown fd_Many_shown)
    (l_Pair_init : Lies K f_Pair_init "__init__" "Pair.__init__" s_Pair_init fd_Pair_init)
    (i_Before_shown : PySem.W.findIn K (.ref C_Before) "shown" = some (some (.ref f_Before_shown)))
    (l_Before_shown : Lies K f_Before_shown "shown" "Before.shown" s_Before_shown fd_Before_shown)
    (i_Under_shown : PySem.W.findIn K (.ref C_Under) "shown" = some (some (.ref f_Under_shown)))
    (l_Under_shown : Lies K f_Under_shown "shown" "Under.shown" s_Under_shown fd_Under_shown)
    (i_Beside_shown : PySem.W.findIn K (.ref C_Beside) "shown" = some (some (.ref f_Beside_shown)))
    (l_Beside_shown : Lies K f_Beside_shown "shown" "Beside.shown" s_Beside_shown fd_Beside_shown)
    (l_Joint_init : Lies K f_Joint_init "__init__" "Joint.__init__" s_Joint_init fd_Joint_init)
    (i_All_shown : PySem.W.findIn K (.ref C_All) "shown" = some (some (.ref f_All_shown)))
    (l_All_shown : Lies K f_All_shown "shown" "All.shown" s_All_shown fd_All_shown)
    (i_Any_shown : PySem.W.findIn K (.ref C_Any) "shown" = some (some (.ref f_Any_shown)))
    (l_Any_shown : Lies K f_Any_shown "shown" "Any.shown" s_Any_shown fd_Any_shown)
    (l_Not_init : Lies K f_Not_init "__init__" "Not.__init__" s_Not_init fd_Not_init)
    (i_Not_shown : PySem.W.findIn K (.ref C_Not) "shown" = some (some (.ref f_Not_shown)))
    (l_Not_shown : Lies K f_Not_shown "shown" "Not.shown" s_Not_shown fd_Not_shown)
    (a_is_mark : PySem.W.nsIn K mainGlobals "is_mark" = some (some (.ref f_is_mark)))
    (l_is_mark : Lies K f_is_mark "is_mark" "is_mark" s_is_mark fd_is_mark)
    (a_pair_fault : PySem.W.nsIn K mainGlobals "pair_fault" = some (some (.ref f_pair_fault)))
    (l_pair_fault : Lies K f_pair_fault "pair_fault" "pair_fault" s_pair_fault fd_pair_fault)
    (l_Reader_init : Lies K f_Reader_init "__init__" "Reader.__init__" s_Reader_init fd_Reader_init)
    (i_Reader_is_at_end : PySem.W.findIn K (.ref C_Reader) "is_at_end" = some (some (.ref f_Reader_is_at_end)))
    (l_Reader_is_at_end : Lies K f_Reader_is_at_end "is_at_end" "Reader.is_at_end" s_Reader_is_at_end fd_Reader_is_at_end)
    (i_Reader_is_at : PySem.W.findIn K (.ref C_Reader) "is_at" = some (some (.ref f_Reader_is_at)))
    (l_Reader_is_at : Lies K f_Reader_is_at "is_at" "Reader.is_at" s_Reader_is_at fd_Reader_is_at)
    (i_Reader_read_sign : PySem.W.findIn K (.ref C_Reader) "read_sign" = some (some (.ref f_Reader_read_sign)))
    (l_Reader_read_sign : Lies K f_Reader_read_sign "read_sign" "Reader.read_sign" s_Reader_read_sign fd_Reader_read_sign)
    (i_Reader_read_run : PySem.W.findIn K (.ref C_Reader) "read_run" = some (some (.ref f_Reader_read_run)))
    (l_Reader_read_run : Lies K f_Reader_read_run "read_run" "Reader.read_run" s_Reader_read_run fd_Reader_read_run)
    (i_Reader_read_mark : PySem.W.findIn K (.ref C_Reader) "read_mark" = some (some (.ref f_Reader_read_mark)))
    (l_Reader_read_mark : Lies K f_Reader_read_mark "read_mark" "Reader.read_mark" s_Reader_read_mark fd_Reader_read_mark)
    (i_Reader_read_number : PySem.W.findIn K (.ref C_Reader) "read_number" = some (some (.ref f_Reader_read_number)))
    (l_Reader_read_number : Lies K f_Reader_read_number "read_number" "Reader.read_number" s_Reader_read_number fd_Reader_read_number)
    (i_Reader_read_next : PySem.W.findIn K (.ref C_Reader) "read_next" = some (some (.ref f_Reader_read_next)))
    (l_Reader_read_next : Lies K f_Reader_read_next "read_next" "Reader.read_next" s_Reader_read_next fd_Reader_read_next)
    (i_Reader_read_inside : PySem.W.findIn K (.ref C_Reader) "read_inside" = some (some (.ref f_Reader_read_inside)))
    (l_Reader_read_inside : Lies K f_Reader_read_inside "read_inside" "Reader.read_inside" s_Reader_read_inside fd_Reader_read_inside)
    (i_Reader_read_many : PySem.W.findIn K (.ref C_Reader) "read_many" = some (some (.ref f_Reader_read_many)))
    (l_Reader_read_many : Lies K f_Reader_read_many "read_many" "Reader.read_many" s_Reader_read_many fd_Reader_read_many)
    (i_Reader_read_pair : PySem.W.findIn K (.ref C_Reader) "read_pair" = some (some (.ref f_Reader_read_pair)))
    (l_Reader_read_pair : Lies K f_Reader_read_pair "read_pair" "Reader.read_pair" s_Reader_read_pair fd_Reader_read_pair)
    (i_Reader_read_parts : PySem.W.findIn K (.ref C_Reader) "read_parts" = some (some (.ref f_Reader_read_parts)))
    (l_Reader_read_parts : Lies K f_Reader_read_parts "read_parts" "Reader.read_parts" s_Reader_read_parts fd_Reader_read_parts)
    (a_read_fault : PySem.W.nsIn K mainGlobals "read_fault" = some (some (.ref f_read_fault)))
    (l_read_fault : Lies K f_read_fault "read_fault" "read_fault" s_read_fault fd_read_fault)
    (a__law_cell_at : PySem.W.nsIn K mainGlobals "_law_cell_at" = some (some (.ref f__law_cell_at)))
    (l__law_cell_at : Lies K f__law_cell_at "_law_cell_at" "_law_cell_at" s__law_cell_at fd__law_cell_at)
    (a__law_names : PySem.W.nsIn K mainGlobals "_law_names" = some (some (.ref f__law_names)))
    (l__law_names : Lies K f__law_names "_law_names" "_law_names" s__law_names fd__law_names)
    (a__law_leaf : PySem.W.nsIn K mainGlobals "_law_leaf" = some (some (.ref f__law_leaf)))
    (l__law_leaf : Lies K f__law_leaf "_law_leaf" "_law_leaf" s__law_leaf fd__law_leaf)
    (a__law_term : PySem.W.nsIn K mainGlobals "_law_term" = some (some (.ref f__law_term)))
    (l__law_term : Lies K f__law_term "_law_term" "_law_term" s__law_term fd__law_term)
    (a__law_text : PySem.W.nsIn K mainGlobals "_law_text" = some (some (.ref f__law_text)))
    (l__law_text : Lies K f__law_text "_law_text" "_law_text" s__law_text fd__law_text)
    (a__law_refused : PySem.W.nsIn K mainGlobals "_law_refused" = some (some (.ref f__law_refused)))
    (l__law_refused : Lies K f__law_refused "_law_refused" "_law_refused" s__law_refused fd__law_refused)
    (a__law_wide : PySem.W.nsIn K mainGlobals "_law_wide" = some (some (.ref f__law_wide)))
    (l__law_wide : Lies K f__law_wide "_law_wide" "_law_wide" s__law_wide fd__law_wide)
    (a__law_plain_odd : PySem.W.nsIn K mainGlobals "_law_plain_odd" = some (some (.ref f__law_plain_odd)))
    (l__law_plain_odd : Lies K f__law_plain_odd "_law_plain_odd" "_law_plain_odd" s__law_plain_odd fd__law_plain_odd)
    (a__law_group_odd : PySem.W.nsIn K mainGlobals "_law_group_odd" = some (some (.ref f__law_group_odd)))
    (l__law_group_odd : Lies K f__law_group_odd "_law_group_odd" "_law_group_odd" s__law_group_odd fd__law_group_odd)
    (a__law_odd : PySem.W.nsIn K mainGlobals "_law_odd" = some (some (.ref f__law_odd)))
    (l__law_odd : Lies K f__law_odd "_law_odd" "_law_odd" s__law_odd fd__law_odd)
    (a_law : PySem.W.nsIn K mainGlobals "law" = some (some (.ref f_law)))
    (l_law : Lies K f_law "law" "law" s_law fd_law)
    (z_ValueError : PySem.W.nsIn K mainGlobals "ValueError" = some none)
    (z_all : PySem.W.nsIn K mainGlobals "all" = some none)
    (z_int : PySem.W.nsIn K mainGlobals "int" = some none)
    (z_isinstance : PySem.W.nsIn K mainGlobals "isinstance" = some none)
    (z_len : PySem.W.nsIn K mainGlobals "len" = some none)
    (z_min : PySem.W.nsIn K mainGlobals "min" = some none)
    (z_range : PySem.W.nsIn K mainGlobals "range" = some none)
    (z_str : PySem.W.nsIn K mainGlobals "str" = some none)
    (z_tuple : PySem.W.nsIn K mainGlobals "tuple" = some none)
    (g_LETTERS : PySem.W.nsIn K mainGlobals "LETTERS" = some (some (.str LET tk_LETTERS)))
    (g_LONGEST_MARK : PySem.W.nsIn K mainGlobals "LONGEST_MARK" = some (some (.int 8 tk_LONGEST_MARK)))
    (g_FIGURES : PySem.W.nsIn K mainGlobals "FIGURES" = some (some (.str "0123456789" tk_FIGURES)))
    (g_MOST_FIGURES : PySem.W.nsIn K mainGlobals "MOST_FIGURES" = some (some (.int 9 tk_MOST_FIGURES)))
    (g_FEWEST_PARTS : PySem.W.nsIn K mainGlobals "FEWEST_PARTS" = some (some (.int 2 tk_FEWEST_PARTS)))
    (g_MOST_PARTS : PySem.W.nsIn K mainGlobals "MOST_PARTS" = some (some (.int 6 tk_MOST_PARTS)))
    (g_DEEPEST : PySem.W.nsIn K mainGlobals "DEEPEST" = some (some (.int 8 tk_DEEPEST)))
    (g_MOST_FAULTS : PySem.W.nsIn K mainGlobals "MOST_FAULTS" = some (some (.int 60 tk_MOST_FAULTS)))
    (x1_NoFault : PySem.W.excIn K C_NoFault [.type "ValueError", .type "Exception", .type "BaseException", .type "object"] "ValueError.__new__" = true)
    (x2_NoFault : PySem.W.findIn K (.ref C_NoFault) "__getattribute__" = some (some (.builtin "BaseException.__getattribute__")))
    (x3_NoFault : PySem.W.findIn K (.ref C_NoFault) "__getattr__" = some none)
    (x4_NoFault : PySem.W.findIn K (.ref C_NoFault) "__class__" = some (some (.builtin "object.__class__")))
    (x5_NoFault : PySem.W.mroIn K C_NoFault (.type "object") = some true)
    (x6_NoFault : PySem.W.subIn K (.ref C_NoFault) (.type "BaseException") = some true)
    (x7_NoFault : PySem.W.clsIn K C_NoFault = some cd_NoFault)
    (x8_NoFault_NoFault : PySem.W.exmOne K (.ref C_NoFault) (.ref C_NoFault) = some true)
    (x8_NoFault_ShrinkError : PySem.W.exmOne K (.ref C_NoFault) (.ref C_ShrinkError) = some true)
    (y_NoFault_NoRow : PySem.W.kitOne K (.ref C_NoFault) (.ref C_NoRow) = some false)
    (y_NoFault_NoText : PySem.W.kitOne K (.ref C_NoFault) (.ref C_NoText) = some false)
    (y_NoFault_NoThing : PySem.W.kitOne K (.ref C_NoFault) (.ref C_NoThing) = some false)
    (y_NoFault_ValueError : PySem.W.kitOne K (.ref C_NoFault) (.type "ValueError") = some true)
    (r1_All : PySem.W.plainGet K C_All Str.empty = true)
    (r2_All : PySem.W.hasDictIn K C_All = true)
    (r3_All : PySem.W.plainOver K C_All = true)
    (r4_All : PySem.W.findIn K (.ref C_All) "__setattr__" = some (some (.builtin "object.__setattr__")))
    (n_All_parts : PySem.W.findIn K (.ref C_All) "parts" = some none)
    (r6_All : PySem.W.findIn K (.ref C_All) "__class__" = some (some (.builtin "object.__class__")))
    (r9_All : PySem.W.mroIn K C_All (.type "object") = some true)
    (r1_Any : PySem.W.plainGet K C_Any Str.empty = true)
    (r2_Any : PySem.W.hasDictIn K C_Any = true)
    (r3_Any : PySem.W.plainOver K C_Any = true)
    (r4_Any : PySem.W.findIn K (.ref C_Any) "__setattr__" = some (some (.builtin "object.__setattr__")))
    (n_Any_parts : PySem.W.findIn K (.ref C_Any) "parts" = some none)
    (r6_Any : PySem.W.findIn K (.ref C_Any) "__class__" = some (some (.builtin "object.__class__")))
    (r9_Any : PySem.W.mroIn K C_Any (.type "object") = some true)
    (r1_Before : PySem.W.plainGet K C_Before Str.empty = true)
    (r2_Before : PySem.W.hasDictIn K C_Before = true)
    (r3_Before : PySem.W.plainOver K C_Before = true)
    (r4_Before : PySem.W.findIn K (.ref C_Before) "__setattr__" = some (some (.builtin "object.__setattr__")))
    (n_Before_one : PySem.W.findIn K (.ref C_Before) "one" = some none)
    (n_Before_other : PySem.W.findIn K (.ref C_Before) "other" = some none)
    (r6_Before : PySem.W.findIn K (.ref C_Before) "__class__" = some (some (.builtin "object.__class__")))
    (r9_Before : PySem.W.mroIn K C_Before (.type "object") = some true)
    (r1_Beside : PySem.W.plainGet K C_Beside Str.empty = true)
    (r2_Beside : PySem.W.hasDictIn K C_Beside = true)
    (r3_Beside : PySem.W.plainOver K C_Beside = true)
    (r4_Beside : PySem.W.findIn K (.ref C_Beside) "__setattr__" = some (some (.builtin "object.__setattr__")))
    (n_Beside_one : PySem.W.findIn K (.ref C_Beside) "one" = some none)
    (n_Beside_other : PySem.W.findIn K (.ref C_Beside) "other" = some none)
    (r6_Beside : PySem.W.findIn K (.ref C_Beside) "__class__" = some (some (.builtin "object.__class__")))
    (r9_Beside : PySem.W.mroIn K C_Beside (.type "object") = some true)
    (r1_Has : PySem.W.plainGet K C_Has Str.empty = true)
    (r2_Has : PySem.W.hasDictIn K C_Has = true)
    (r3_Has : PySem.W.plainOver K C_Has = true)
    (r4_Has : PySem.W.findIn K (.ref C_Has) "__setattr__" = some (some (.builtin "object.__setattr__")))
    (n_Has_mark : PySem.W.findIn K (.ref C_Has) "mark" = some none)
    (r6_Has : PySem.W.findIn K (.ref C_Has) "__class__" = some (some (.builtin "object.__class__")))
    (r9_Has : PySem.W.mroIn K C_Has (.type "object") = some true)
    (r1_Many : PySem.W.plainGet K C_Many Str.empty = true)
    (r2_Many : PySem.W.hasDictIn K C_Many = true)
    (r3_Many : PySem.W.plainOver K C_Many = true)
    (r4_Many : PySem.W.findIn K (.ref C_Many) "__setattr__" = some (some (.builtin "object.__setattr__")))
    (n_Many_mark : PySem.W.findIn K (.ref C_Many) "mark" = some none)
    (n_Many_number : PySem.W.findIn K (.ref C_Many) "number" = some none)
    (r6_Many : PySem.W.findIn K (.ref C_Many) "__class__" = some (some (.builtin "object.__class__")))
    (r9_Many : PySem.W.mroIn K C_Many (.type "object") = some true)
    (r1_Not : PySem.W.plainGet K C_Not Str.empty = true)
    (r2_Not : PySem.W.hasDictIn K C_Not = true)
    (r3_Not : PySem.W.plainOver K C_Not = true)
    (r4_Not : PySem.W.findIn K (.ref C_Not) "__setattr__" = some (some (.builtin "object.__setattr__")))
    (n_Not_part : PySem.W.findIn K (.ref C_Not) "part" = some none)
    (r6_Not : PySem.W.findIn K (.ref C_Not) "__class__" = some (some (.builtin "object.__class__")))
    (r9_Not : PySem.W.mroIn K C_Not (.type "object") = some true)
    (r1_Reader : PySem.W.plainGet K C_Reader Str.empty = true)
    (r2_Reader : PySem.W.hasDictIn K C_Reader = true)
    (r3_Reader : PySem.W.plainOver K C_Reader = true)
    (r4_Reader : PySem.W.findIn K (.ref C_Reader) "__setattr__" = some (some (.builtin "object.__setattr__")))
    (n_Reader_at : PySem.W.findIn K (.ref C_Reader) "at" = some none)
    (n_Reader_met : PySem.W.findIn K (.ref C_Reader) "met" = some none)
    (n_Reader_text : PySem.W.findIn K (.ref C_Reader) "text" = some none)
    (r6_Reader : PySem.W.findIn K (.ref C_Reader) "__class__" = some (some (.builtin "object.__class__")))
    (r9_Reader : PySem.W.mroIn K C_Reader (.type "object") = some true)
    (r1_Under : PySem.W.plainGet K C_Under Str.empty = true)
    (r2_Under : PySem.W.hasDictIn K C_Under = true)
    (r3_Under : PySem.W.plainOver K C_Under = true)
    (r4_Under : PySem.W.findIn K (.ref C_Under) "__setattr__" = some (some (.builtin "object.__setattr__")))
    (n_Under_one : PySem.W.findIn K (.ref C_Under) "one" = some none)
    (n_Under_other : PySem.W.findIn K (.ref C_Under) "other" = some none)
    (r6_Under : PySem.W.findIn K (.ref C_Under) "__class__" = some (some (.builtin "object.__class__")))
    (r9_Under : PySem.W.mroIn K C_Under (.type "object") = some true)
    (r7 : PySem.W.specialIn K (.builtin "object.__class__") "__get__" = some (some (.builtin "getset_descriptor.__get__")))
    (r8 : PySem.W.takesIn K (.builtin "object.__class__") = some true)
    (mi_All : PySem.W.findIn K (.ref C_All) "__init__" = some (some (.ref f_Joint_init)))
    (m1_All : PySem.W.makesIn K C_All = true)
    (m2_All : PySem.W.keepIn K (.ref C_All) = true)
    (mi_Any : PySem.W.findIn K (.ref C_Any) "__init__" = some (some (.ref f_Joint_init)))
    (m1_Any : PySem.W.makesIn K C_Any = true)
    (m2_Any : PySem.W.keepIn K (.ref C_Any) = true)
    (mi_Before : PySem.W.findIn K (.ref C_Before) "__init__" = some (some (.ref f_Pair_init)))
    (m1_Before : PySem.W.makesIn K C_Before = true)
    (m2_Before : PySem.W.keepIn K (.ref C_Before) = true)
    (mi_Beside : PySem.W.findIn K (.ref C_Beside) "__init__" = some (some (.ref f_Pair_init)))
    (m1_Beside : PySem.W.makesIn K C_Beside = true)
    (m2_Beside : PySem.W.keepIn K (.ref C_Beside) = true)
    (mi_Has : PySem.W.findIn K (.ref C_Has) "__init__" = some (some (.ref f_Has_init)))
    (m1_Has : PySem.W.makesIn K C_Has = true)
    (m2_Has : PySem.W.keepIn K (.ref C_Has) = true)
    (mi_Many : PySem.W.findIn K (.ref C_Many) "__init__" = some (some (.ref f_Many_init)))
    (m1_Many : PySem.W.makesIn K C_Many = true)
    (m2_Many : PySem.W.keepIn K (.ref C_Many) = true)
    (mi_Not : PySem.W.findIn K (.ref C_Not) "__init__" = some (some (.ref f_Not_init)))
    (m1_Not : PySem.W.makesIn K C_Not = true)
    (m2_Not : PySem.W.keepIn K (.ref C_Not) = true)
    (mi_Reader : PySem.W.findIn K (.ref C_Reader) "__init__" = some (some (.ref f_Reader_init)))
    (m1_Reader : PySem.W.makesIn K C_Reader = true)
    (m2_Reader : PySem.W.keepIn K (.ref C_Reader) = true)
    (mi_Under : PySem.W.findIn K (.ref C_Under) "__init__" = some (some (.ref f_Pair_init)))
    (m1_Under : PySem.W.makesIn K C_Under = true)
    (m2_Under : PySem.W.keepIn K (.ref C_Under) = true) :
    ∃ fd : FuncData, (∀ (s : Shared) (v : Value), BindsTo s fd ⟨[v], []⟩ [("_law_script", v)]) ∧ ∀ base : Heap, K.In base → base.Ns mainGlobals mg → FnOk l.prog w K mg base CX0 42 fa fd ["_law_script"] (sp_law K) := by
  have e := hfa.symm.trans (PySem.W.mg_of X G a_law)
  cases e
  have T : Txt K mg ⟨C_ShrinkError, C_NoThing, C_NoFault, C_NoText, C_NoRow, C_Fault, C_Has, C_Many, C_Pair, C_Before, C_Under, C_Beside, C_Joint, C_All, C_Any, C_Not, C_Reader⟩ := ⟨PySem.W.mg_none_of X G z_ValueError, PySem.W.mg_none_of X G z_all, PySem.W.mg_none_of X G z_int, PySem.W.mg_none_of X G z_isinstance, PySem.W.mg_none_of X G z_len, PySem.W.mg_none_of X G z_min, PySem.W.mg_none_of X G z_range, PySem.W.mg_none_of X G z_str, PySem.W.mg_none_of X G z_tuple, PySem.W.mg_of X G a_ShrinkError, PySem.W.mg_of X G a_NoThing, PySem.W.mg_of X G a_NoFault, PySem.W.mg_of X G a_NoText, PySem.W.mg_of X G a_NoRow, PySem.W.mg_of X G a_Fault, PySem.W.mg_of X G a_Has, PySem.W.mg_of X G a_Many, PySem.W.mg_of X G a_Pair, PySem.W.mg_of X G a_Before, PySem.W.mg_of X G a_Under, PySem.W.mg_of X G a_Beside, PySem.W.mg_of X G a_Joint, PySem.W.mg_of X G a_All, PySem.W.mg_of X G a_Any, PySem.W.mg_of X G a_Not, PySem.W.mg_of X G a_Reader, ⟨_, PySem.W.mg_of X G g_LETTERS⟩, ⟨_, PySem.W.mg_of X G g_LONGEST_MARK⟩, ⟨_, PySem.W.mg_of X G g_FIGURES⟩, ⟨_, PySem.W.mg_of X G g_MOST_FIGURES⟩, ⟨_, PySem.W.mg_of X G g_FEWEST_PARTS⟩, ⟨_, PySem.W.mg_of X G g_MOST_PARTS⟩, ⟨_, PySem.W.mg_of X G g_DEEPEST⟩, ⟨_, PySem.W.mg_of X G g_MOST_FAULTS⟩, ⟨PySem.W.mg_of X G a_NoFault, a_NoFault, x1_NoFault⟩, ⟨x2_NoFault, x3_NoFault, x4_NoFault, x5_NoFault, x6_NoFault, by rw [x7_NoFault]; rfl⟩, x8_NoFault_NoFault, x8_NoFault_ShrinkError, y_NoFault_NoRow, y_NoFault_NoText, y_NoFault_NoThing, y_NoFault_ValueError, ⟨r1_All, r2_All, r3_All, r4_All⟩, n_All_parts, r6_All, r9_All, ⟨r1_Any, r2_Any, r3_Any, r4_Any⟩, n_Any_parts, r6_Any, r9_Any, ⟨r1_Before, r2_Before, r3_Before, r4_Before⟩, n_Before_one, n_Before_other, r6_Before, r9_Before, ⟨r1_Beside, r2_Beside, r3_Beside, r4_Beside⟩, n_Beside_one, n_Beside_other, r6_Beside, r9_Beside, ⟨r1_Has, r2_Has, r3_Has, r4_Has⟩, n_Has_mark, r6_Has, r9_Has, ⟨r1_Many, r2_Many, r3_Many, r4_Many⟩, n_Many_mark, n_Many_number, r6_Many, r9_Many, ⟨r1_Not, r2_Not, r3_Not, r4_Not⟩, n_Not_part, r6_Not, r9_Not, ⟨r1_Reader, r2_Reader, r3_Reader, r4_Reader⟩, n_Reader_at, n_Reader_met, n_Reader_text, r6_Reader, r9_Reader, ⟨r1_Under, r2_Under, r3_Under, r4_Under⟩, n_Under_one, n_Under_other, r6_Under, r9_Under, r7, r8⟩
  have F_written := l_written.fn
  have D_written : Def K mg "written" s_written ["word", "inside"] f_written _ := ⟨F_written, PySem.W.mg_of X G a_written, F_written.binds (ps := ["word", "inside"]) fun _ _ _ _ _ _ us hl => match us, hl with | [_, _], _ => rfl⟩
  have F_Has_init := l_Has_init.fn
  have B_Has_init : Binds K _ ["self", "mark"] [] := F_Has_init.binds (ps := ["self", "mark"]) fun _ _ _ _ _ _ us hl => match us, hl with | [_, _], _ => rfl
  have F_Has_shown := l_Has_shown.fn
  have B_Has_shown : Binds K _ ["self"] [] := F_Has_shown.binds (ps := ["self"]) fun _ _ _ _ _ _ us hl => match us, hl with | [_], _ => rfl
  have F_Many_init := l_Many_init.fn
  have B_Many_init : Binds K _ ["self", "number", "mark"] [] := F_Many_init.binds (ps := ["self", "number", "mark"]) fun _ _ _ _ _ _ us hl => match us, hl with | [_, _, _], _ => rfl
  have F_Many_shown := l_Many_shown.fn
  have B_Many_shown : Binds K _ ["self"] [] := F_Many_shown.binds (ps := ["self"]) fun _ _ _ _ _ _ us hl => match us, hl with | [_], _ => rfl
  have F_Pair_init := l_Pair_init.fn
  have B_Pair_init : Binds K _ ["self", "one", "other"] [] := F_Pair_init.binds (ps := ["self", "one", "other"]) fun _ _ _ _ _ _ us hl => match us, hl with | [_, _, _], _ => rfl
  have F_Before_shown := l_Before_shown.fn
  have B_Before_shown : Binds K _ ["self"] [] := F_Before_shown.binds (ps := ["self"]) fun _ _ _ _ _ _ us hl => match us, hl with | [_], _ => rfl
  have F_Under_shown := l_Under_shown.fn
  have B_Under_shown : Binds K _ ["self"] [] := F_Under_shown.binds (ps := ["self"]) fun _ _ _ _ _ _ us hl => match us, hl with | [_], _ => rfl
  have F_Beside_shown := l_Beside_shown.fn
  have B_Beside_shown : Binds K _ ["self"] [] := F_Beside_shown.binds (ps := ["self"]) fun _ _ _ _ _ _ us hl => match us, hl with | [_], _ => rfl
  have F_Joint_init := l_Joint_init.fn
  have B_Joint_init : Binds K _ ["self", "parts"] [] := F_Joint_init.binds (ps := ["self", "parts"]) fun _ _ _ _ _ _ us hl => match us, hl with | [_, _], _ => rfl
  have F_All_shown := l_All_shown.fn
  have B_All_shown : Binds K _ ["self"] [] := F_All_shown.binds (ps := ["self"]) fun _ _ _ _ _ _ us hl => match us, hl with | [_], _ => rfl
  have F_Any_shown := l_Any_shown.fn
  have B_Any_shown : Binds K _ ["self"] [] := F_Any_shown.binds (ps := ["self"]) fun _ _ _ _ _ _ us hl => match us, hl with | [_], _ => rfl
  have F_Not_init := l_Not_init.fn
  have B_Not_init : Binds K _ ["self", "part"] [] := F_Not_init.binds (ps := ["self", "part"]) fun _ _ _ _ _ _ us hl => match us, hl with | [_, _], _ => rfl
  have F_Not_shown := l_Not_shown.fn
  have B_Not_shown : Binds K _ ["self"] [] := F_Not_shown.binds (ps := ["self"]) fun _ _ _ _ _ _ us hl => match us, hl with | [_], _ => rfl
  have F_is_mark := l_is_mark.fn
  have D_is_mark : Def K mg "is_mark" s_is_mark ["thing"] f_is_mark _ := ⟨F_is_mark, PySem.W.mg_of X G a_is_mark, F_is_mark.binds (ps := ["thing"]) fun _ _ _ _ _ _ us hl => match us, hl with | [_], _ => rfl⟩
  have F_pair_fault := l_pair_fault.fn
  have D_pair_fault : Def K mg "pair_fault" s_pair_fault ["word", "one", "other"] f_pair_fault _ := ⟨F_pair_fault, PySem.W.mg_of X G a_pair_fault, F_pair_fault.binds (ps := ["word", "one", "other"]) fun _ _ _ _ _ _ us hl => match us, hl with | [_, _, _], _ => rfl⟩
  have F_Reader_init := l_Reader_init.fn
  have B_Reader_init : Binds K _ ["self", "text"] [] := F_Reader_init.binds (ps := ["self", "text"]) fun _ _ _ _ _ _ us hl => match us, hl with | [_, _], _ => rfl
  have F_Reader_is_at_end := l_Reader_is_at_end.fn
  have B_Reader_is_at_end : Binds K _ ["self"] [] := F_Reader_is_at_end.binds (ps := ["self"]) fun _ _ _ _ _ _ us hl => match us, hl with | [_], _ => rfl
  have F_Reader_is_at := l_Reader_is_at.fn
  have B_Reader_is_at : Binds K _ ["self", "sign"] [] := F_Reader_is_at.binds (ps := ["self", "sign"]) fun _ _ _ _ _ _ us hl => match us, hl with | [_, _], _ => rfl
  have F_Reader_read_sign := l_Reader_read_sign.fn
  have B_Reader_read_sign : Binds K _ ["self", "sign"] [] := F_Reader_read_sign.binds (ps := ["self", "sign"]) fun _ _ _ _ _ _ us hl => match us, hl with | [_, _], _ => rfl
  have F_Reader_read_run := l_Reader_read_run.fn
  have B_Reader_read_run : Binds K _ ["self", "signs"] [] := F_Reader_read_run.binds (ps := ["self", "signs"]) fun _ _ _ _ _ _ us hl => match us, hl with | [_, _], _ => rfl
  have F_Reader_read_mark := l_Reader_read_mark.fn
  have B_Reader_read_mark : Binds K _ ["self"] [] := F_Reader_read_mark.binds (ps := ["self"]) fun _ _ _ _ _ _ us hl => match us, hl with | [_], _ => rfl
  have F_Reader_read_number := l_Reader_read_number.fn
  have B_Reader_read_number : Binds K _ ["self"] [] := F_Reader_read_number.binds (ps := ["self"]) fun _ _ _ _ _ _ us hl => match us, hl with | [_], _ => rfl
  have F_Reader_read_next := l_Reader_read_next.fn
  have B_Reader_read_next : Binds K _ ["self", "deep"] [] := F_Reader_read_next.binds (ps := ["self", "deep"]) fun _ _ _ _ _ _ us hl => match us, hl with | [_, _], _ => rfl
  have F_Reader_read_inside := l_Reader_read_inside.fn
  have B_Reader_read_inside : Binds K _ ["self", "word", "deep"] [] := F_Reader_read_inside.binds (ps := ["self", "word", "deep"]) fun _ _ _ _ _ _ us hl => match us, hl with | [_, _, _], _ => rfl
  have F_Reader_read_many := l_Reader_read_many.fn
  have B_Reader_read_many : Binds K _ ["self"] [] := F_Reader_read_many.binds (ps := ["self"]) fun _ _ _ _ _ _ us hl => match us, hl with | [_], _ => rfl
  have F_Reader_read_pair := l_Reader_read_pair.fn
  have B_Reader_read_pair : Binds K _ ["self", "word"] [] := F_Reader_read_pair.binds (ps := ["self", "word"]) fun _ _ _ _ _ _ us hl => match us, hl with | [_, _], _ => rfl
  have F_Reader_read_parts := l_Reader_read_parts.fn
  have B_Reader_read_parts : Binds K _ ["self", "deep"] [] := F_Reader_read_parts.binds (ps := ["self", "deep"]) fun _ _ _ _ _ _ us hl => match us, hl with | [_, _], _ => rfl
  have F_read_fault := l_read_fault.fn
  have D_read_fault : Def K mg "read_fault" s_read_fault ["text"] f_read_fault _ := ⟨F_read_fault, PySem.W.mg_of X G a_read_fault, F_read_fault.binds (ps := ["text"]) fun _ _ _ _ _ _ us hl => match us, hl with | [_], _ => rfl⟩
  have F__law_cell_at := l__law_cell_at.fn
  have D__law_cell_at : Def K mg "_law_cell_at" s__law_cell_at ["_law_script", "_law_k"] f__law_cell_at _ := ⟨F__law_cell_at, PySem.W.mg_of X G a__law_cell_at, F__law_cell_at.binds (ps := ["_law_script", "_law_k"]) fun _ _ _ _ _ _ us hl => match us, hl with | [_, _], _ => rfl⟩
  have F__law_names := l__law_names.fn
  have D__law_names : Def K mg "_law_names" s__law_names ["_law_cell", "_law_many"] f__law_names _ := ⟨F__law_names, PySem.W.mg_of X G a__law_names, F__law_names.binds (ps := ["_law_cell", "_law_many"]) fun _ _ _ _ _ _ us hl => match us, hl with | [_, _], _ => rfl⟩
  have F__law_leaf := l__law_leaf.fn
  have D__law_leaf : Def K mg "_law_leaf" s__law_leaf ["_law_cell", "_law_names_here"] f__law_leaf _ := ⟨F__law_leaf, PySem.W.mg_of X G a__law_leaf, F__law_leaf.binds (ps := ["_law_cell", "_law_names_here"]) fun _ _ _ _ _ _ us hl => match us, hl with | [_, _], _ => rfl⟩
  have F__law_term := l__law_term.fn
  have D__law_term : Def K mg "_law_term" s__law_term ["_law_script", "_law_begin", "_law_many", "_law_names_here"] f__law_term _ := ⟨F__law_term, PySem.W.mg_of X G a__law_term, F__law_term.binds (ps := ["_law_script", "_law_begin", "_law_many", "_law_names_here"]) fun _ _ _ _ _ _ us hl => match us, hl with | [_, _, _, _], _ => rfl⟩
  have F__law_text := l__law_text.fn
  have D__law_text : Def K mg "_law_text" s__law_text ["_law_term_here"] f__law_text _ := ⟨F__law_text, PySem.W.mg_of X G a__law_text, F__law_text.binds (ps := ["_law_term_here"]) fun _ _ _ _ _ _ us hl => match us, hl with | [_], _ => rfl⟩
  have F__law_refused := l__law_refused.fn
  have D__law_refused : Def K mg "_law_refused" s__law_refused ["_law_text_here"] f__law_refused _ := ⟨F__law_refused, PySem.W.mg_of X G a__law_refused, F__law_refused.binds (ps := ["_law_text_here"]) fun _ _ _ _ _ _ us hl => match us, hl with | [_], _ => rfl⟩
  have F__law_wide := l__law_wide.fn
  have D__law_wide : Def K mg "_law_wide" s__law_wide ["_law_one", "_law_many"] f__law_wide _ := ⟨F__law_wide, PySem.W.mg_of X G a__law_wide, F__law_wide.binds (ps := ["_law_one", "_law_many"]) fun _ _ _ _ _ _ us hl => match us, hl with | [_, _], _ => rfl⟩
  have F__law_plain_odd := l__law_plain_odd.fn
  have D__law_plain_odd : Def K mg "_law_plain_odd" s__law_plain_odd ["_law_a", "_law_b"] f__law_plain_odd _ := ⟨F__law_plain_odd, PySem.W.mg_of X G a__law_plain_odd, F__law_plain_odd.binds (ps := ["_law_a", "_law_b"]) fun _ _ _ _ _ _ us hl => match us, hl with | [_, _], _ => rfl⟩
  have F__law_group_odd := l__law_group_odd.fn
  have D__law_group_odd : Def K mg "_law_group_odd" s__law_group_odd ["_law_a", "_law_b"] f__law_group_odd _ := ⟨F__law_group_odd, PySem.W.mg_of X G a__law_group_odd, F__law_group_odd.binds (ps := ["_law_a", "_law_b"]) fun _ _ _ _ _ _ us hl => match us, hl with | [_, _], _ => rfl⟩
  have F__law_odd := l__law_odd.fn
  have D__law_odd : Def K mg "_law_odd" s__law_odd ["_law_script", "_law_cell", "_law_names_here"] f__law_odd _ := ⟨F__law_odd, PySem.W.mg_of X G a__law_odd, F__law_odd.binds (ps := ["_law_script", "_law_cell", "_law_names_here"]) fun _ _ _ _ _ _ us hl => match us, hl with | [_, _, _], _ => rfl⟩
  have F_law := l_law.fn
  have D_law : Def K mg "law" s_law ["_law_script"] fa _ := ⟨F_law, PySem.W.mg_of X G a_law, F_law.binds (ps := ["_law_script"]) fun _ _ _ _ _ _ us hl => match us, hl with | [_], _ => rfl⟩
  have M_All : Mk K C_All f_Joint_init := ⟨m1_All, mi_All, l_Joint_init.isf, m2_All⟩
  have M_Any : Mk K C_Any f_Joint_init := ⟨m1_Any, mi_Any, l_Joint_init.isf, m2_Any⟩
  have M_Before : Mk K C_Before f_Pair_init := ⟨m1_Before, mi_Before, l_Pair_init.isf, m2_Before⟩
  have M_Beside : Mk K C_Beside f_Pair_init := ⟨m1_Beside, mi_Beside, l_Pair_init.isf, m2_Beside⟩
  have M_Has : Mk K C_Has f_Has_init := ⟨m1_Has, mi_Has, l_Has_init.isf, m2_Has⟩
  have M_Many : Mk K C_Many f_Many_init := ⟨m1_Many, mi_Many, l_Many_init.isf, m2_Many⟩
  have M_Not : Mk K C_Not f_Not_init := ⟨m1_Not, mi_Not, l_Not_init.isf, m2_Not⟩
  have M_Reader : Mk K C_Reader f_Reader_init := ⟨m1_Reader, mi_Reader, l_Reader_init.isf, m2_Reader⟩
  have M_Under : Mk K C_Under f_Pair_init := ⟨m1_Under, mi_Under, l_Pair_init.isf, m2_Under⟩
  have ME_Has_shown : Meth K C_Has "shown" f_Has_shown := ⟨i_Has_shown, l_Has_shown.isf, l_Has_shown.kp⟩
  have ME_Many_shown : Meth K C_Many "shown" f_Many_shown := ⟨i_Many_shown, l_Many_shown.isf, l_Many_shown.kp⟩
  have ME_Before_shown : Meth K C_Before "shown" f_Before_shown := ⟨i_Before_shown, l_Before_shown.isf, l_Before_shown.kp⟩
  have ME_Under_shown : Meth K C_Under "shown" f_Under_shown := ⟨i_Under_shown, l_Under_shown.isf, l_Under_shown.kp⟩
  have ME_Beside_shown : Meth K C_Beside "shown" f_Beside_shown := ⟨i_Beside_shown, l_Beside_shown.isf, l_Beside_shown.kp⟩
  have ME_All_shown : Meth K C_All "shown" f_All_shown := ⟨i_All_shown, l_All_shown.isf, l_All_shown.kp⟩
  have ME_Any_shown : Meth K C_Any "shown" f_Any_shown := ⟨i_Any_shown, l_Any_shown.isf, l_Any_shown.kp⟩
  have ME_Not_shown : Meth K C_Not "shown" f_Not_shown := ⟨i_Not_shown, l_Not_shown.isf, l_Not_shown.kp⟩
  have ME_Reader_is_at_end : Meth K C_Reader "is_at_end" f_Reader_is_at_end := ⟨i_Reader_is_at_end, l_Reader_is_at_end.isf, l_Reader_is_at_end.kp⟩
  have ME_Reader_is_at : Meth K C_Reader "is_at" f_Reader_is_at := ⟨i_Reader_is_at, l_Reader_is_at.isf, l_Reader_is_at.kp⟩
  have ME_Reader_read_run : Meth K C_Reader "read_run" f_Reader_read_run := ⟨i_Reader_read_run, l_Reader_read_run.isf, l_Reader_read_run.kp⟩
  have ME_Reader_read_sign : Meth K C_Reader "read_sign" f_Reader_read_sign := ⟨i_Reader_read_sign, l_Reader_read_sign.isf, l_Reader_read_sign.kp⟩
  have ME_Reader_read_inside : Meth K C_Reader "read_inside" f_Reader_read_inside := ⟨i_Reader_read_inside, l_Reader_read_inside.isf, l_Reader_read_inside.kp⟩
  have ME_Reader_read_mark : Meth K C_Reader "read_mark" f_Reader_read_mark := ⟨i_Reader_read_mark, l_Reader_read_mark.isf, l_Reader_read_mark.kp⟩
  have ME_Reader_read_many : Meth K C_Reader "read_many" f_Reader_read_many := ⟨i_Reader_read_many, l_Reader_read_many.isf, l_Reader_read_many.kp⟩
  have ME_Reader_read_pair : Meth K C_Reader "read_pair" f_Reader_read_pair := ⟨i_Reader_read_pair, l_Reader_read_pair.isf, l_Reader_read_pair.kp⟩
  have ME_Reader_read_parts : Meth K C_Reader "read_parts" f_Reader_read_parts := ⟨i_Reader_read_parts, l_Reader_read_parts.isf, l_Reader_read_parts.kp⟩
  have ME_Reader_read_next : Meth K C_Reader "read_next" f_Reader_read_next := ⟨i_Reader_read_next, l_Reader_read_next.isf, l_Reader_read_next.kp⟩
  have ME_Reader_read_number : Meth K C_Reader "read_number" f_Reader_read_number := ⟨i_Reader_read_number, l_Reader_read_number.isf, l_Reader_read_number.kp⟩
  obtain ⟨oc_law, od_law, kV_law, dc_law, pm_law, an_law, cd_law, ct_law, sl_law, rfl, _⟩ := id l_law
  refine ⟨PySem.W.fnOf "law" "law" (defArgs s_law) (defBody s_law) (defScope s_law) .none kV_law dc_law pm_law an_law cd_law ct_law, fun s v => .of_eq rfl, fun base _ _ => ?_⟩
  have G_written : FnOk l.prog w K mg base CX0 1 f_written _ ["word", "inside"] (sp_written K) := ok_written D_written T
  have G_Has_init : FnOk l.prog w K mg base CX0 1 f_Has_init _ ["self", "mark"] (sp_Has_init ⟨C_ShrinkError, C_NoThing, C_NoFault, C_NoText, C_NoRow, C_Fault, C_Has, C_Many, C_Pair, C_Before, C_Under, C_Beside, C_Joint, C_All, C_Any, C_Not, C_Reader⟩) := ok_Has_init F_Has_init T
  have G_Has_shown : FnOk l.prog w K mg base CX0 2 f_Has_shown _ ["self"] (sp_Has_shown ⟨C_ShrinkError, C_NoThing, C_NoFault, C_NoText, C_NoRow, C_Fault, C_Has, C_Many, C_Pair, C_Before, C_Under, C_Beside, C_Joint, C_All, C_Any, C_Not, C_Reader⟩) := ok_Has_shown F_Has_shown T G_written D_written
  have G_Many_init : FnOk l.prog w K mg base CX0 1 f_Many_init _ ["self", "number", "mark"] (sp_Many_init ⟨C_ShrinkError, C_NoThing, C_NoFault, C_NoText, C_NoRow, C_Fault, C_Has, C_Many, C_Pair, C_Before, C_Under, C_Beside, C_Joint, C_All, C_Any, C_Not, C_Reader⟩) := ok_Many_init F_Many_init T
  have G_Many_shown : FnOk l.prog w K mg base CX0 2 f_Many_shown _ ["self"] (sp_Many_shown ⟨C_ShrinkError, C_NoThing, C_NoFault, C_NoText, C_NoRow, C_Fault, C_Has, C_Many, C_Pair, C_Before, C_Under, C_Beside, C_Joint, C_All, C_Any, C_Not, C_Reader⟩) := ok_Many_shown F_Many_shown T G_written D_written
  have G_Pair_init : FnOk l.prog w K mg base CX0 1 f_Pair_init _ ["self", "one", "other"] (sp_Pair_init ⟨C_ShrinkError, C_NoThing, C_NoFault, C_NoText, C_NoRow, C_Fault, C_Has, C_Many, C_Pair, C_Before, C_Under, C_Beside, C_Joint, C_All, C_Any, C_Not, C_Reader⟩) := ok_Pair_init F_Pair_init T
  have G_Before_shown : FnOk l.prog w K mg base CX0 2 f_Before_shown _ ["self"] (sp_Before_shown ⟨C_ShrinkError, C_NoThing, C_NoFault, C_NoText, C_NoRow, C_Fault, C_Has, C_Many, C_Pair, C_Before, C_Under, C_Beside, C_Joint, C_All, C_Any, C_Not, C_Reader⟩) := ok_Before_shown F_Before_shown T G_written D_written
  have G_Under_shown : FnOk l.prog w K mg base CX0 2 f_Under_shown _ ["self"] (sp_Under_shown ⟨C_ShrinkError, C_NoThing, C_NoFault, C_NoText, C_NoRow, C_Fault, C_Has, C_Many, C_Pair, C_Before, C_Under, C_Beside, C_Joint, C_All, C_Any, C_Not, C_Reader⟩) := ok_Under_shown F_Under_shown T G_written D_written
  have G_Beside_shown : FnOk l.prog w K mg base CX0 2 f_Beside_shown _ ["self"] (sp_Beside_shown ⟨C_ShrinkError, C_NoThing, C_NoFault, C_NoText, C_NoRow, C_Fault, C_Has, C_Many, C_Pair, C_Before, C_Under, C_Beside, C_Joint, C_All, C_Any, C_Not, C_Reader⟩) := ok_Beside_shown F_Beside_shown T G_written D_written
  have G_Joint_init : FnOk l.prog w K mg base CX0 1 f_Joint_init _ ["self", "parts"] (sp_Joint_init K ⟨C_ShrinkError, C_NoThing, C_NoFault, C_NoText, C_NoRow, C_Fault, C_Has, C_Many, C_Pair, C_Before, C_Under, C_Beside, C_Joint, C_All, C_Any, C_Not, C_Reader⟩) := ok_Joint_init F_Joint_init T
  have GR_0 : ∀ n : Nat, (FnOk l.prog w K mg base CX0 (n + 3) f_All_shown fd_All_shown ["self"] (sp_All_shown ⟨C_ShrinkError, C_NoThing, C_NoFault, C_NoText, C_NoRow, C_Fault, C_Has, C_Many, C_Pair, C_Before, C_Under, C_Beside, C_Joint, C_All, C_Any, C_Not, C_Reader⟩ n)) ∧ (FnOk l.prog w K mg base CX0 (n + 3) f_Any_shown fd_Any_shown ["self"] (sp_Any_shown ⟨C_ShrinkError, C_NoThing, C_NoFault, C_NoText, C_NoRow, C_Fault, C_Has, C_Many, C_Pair, C_Before, C_Under, C_Beside, C_Joint, C_All, C_Any, C_Not, C_Reader⟩ n)) ∧ (FnOk l.prog w K mg base CX0 (n + 3) f_Not_shown fd_Not_shown ["self"] (sp_Not_shown ⟨C_ShrinkError, C_NoThing, C_NoFault, C_NoText, C_NoRow, C_Fault, C_Has, C_Many, C_Pair, C_Before, C_Under, C_Beside, C_Joint, C_All, C_Any, C_Not, C_Reader⟩ n)) := by
    intro n
    induction n with
    | zero => exact ⟨F_All_shown.ok sc_All_shown (fun vs H Q E h => by obtain ⟨_, _, _, _, h, _⟩ := h; exact (absurd h (Nat.not_lt_zero _))) (fun cdv A outer s H vs Q E hr h => by obtain ⟨_, _, _, _, h, _⟩ := h; exact (absurd h (Nat.not_lt_zero _))), F_Any_shown.ok sc_Any_shown (fun vs H Q E h => by obtain ⟨_, _, _, _, h, _⟩ := h; exact (absurd h (Nat.not_lt_zero _))) (fun cdv A outer s H vs Q E hr h => by obtain ⟨_, _, _, _, h, _⟩ := h; exact (absurd h (Nat.not_lt_zero _))), F_Not_shown.ok sc_Not_shown (fun vs H Q E h => by obtain ⟨_, _, _, _, h, _⟩ := h; exact (absurd h (Nat.not_lt_zero _))) (fun cdv A outer s H vs Q E hr h => by obtain ⟨_, _, _, _, h, _⟩ := h; exact (absurd h (Nat.not_lt_zero _)))⟩
    | succ n ih =>
      obtain ⟨G_All_shown, G_Any_shown, G_Not_shown⟩ := ih
      exact ⟨ok_All_shown F_All_shown T G_written G_Has_shown G_Many_shown G_Before_shown G_Under_shown G_Beside_shown G_All_shown G_Any_shown G_Not_shown D_written B_Has_shown B_Many_shown B_Before_shown B_Under_shown B_Beside_shown B_All_shown B_Any_shown B_Not_shown ME_Has_shown ME_Many_shown ME_Before_shown ME_Under_shown ME_Beside_shown ME_All_shown ME_Any_shown ME_Not_shown, ok_Any_shown F_Any_shown T G_written G_Has_shown G_Many_shown G_Before_shown G_Under_shown G_Beside_shown G_All_shown G_Any_shown G_Not_shown D_written B_Has_shown B_Many_shown B_Before_shown B_Under_shown B_Beside_shown B_All_shown B_Any_shown B_Not_shown ME_Has_shown ME_Many_shown ME_Before_shown ME_Under_shown ME_Beside_shown ME_All_shown ME_Any_shown ME_Not_shown, ok_Not_shown F_Not_shown T G_written G_Has_shown G_Many_shown G_Before_shown G_Under_shown G_Beside_shown G_All_shown G_Any_shown G_Not_shown D_written B_Has_shown B_Many_shown B_Before_shown B_Under_shown B_Beside_shown B_All_shown B_Any_shown B_Not_shown ME_Has_shown ME_Many_shown ME_Before_shown ME_Under_shown ME_Beside_shown ME_All_shown ME_Any_shown ME_Not_shown⟩
  obtain ⟨G_All_shown, G_Any_shown, G_Not_shown⟩ := GR_0 34
  have G_Not_init : FnOk l.prog w K mg base CX0 1 f_Not_init _ ["self", "part"] (sp_Not_init ⟨C_ShrinkError, C_NoThing, C_NoFault, C_NoText, C_NoRow, C_Fault, C_Has, C_Many, C_Pair, C_Before, C_Under, C_Beside, C_Joint, C_All, C_Any, C_Not, C_Reader⟩) := ok_Not_init F_Not_init T
  have G_is_mark : FnOk l.prog w K mg base CX0 1 f_is_mark _ ["thing"] sp_is_mark := ok_is_mark D_is_mark T
  have G_pair_fault : FnOk l.prog w K mg base CX0 3 f_pair_fault _ ["word", "one", "other"] (sp_pair_fault ⟨C_ShrinkError, C_NoThing, C_NoFault, C_NoText, C_NoRow, C_Fault, C_Has, C_Many, C_Pair, C_Before, C_Under, C_Beside, C_Joint, C_All, C_Any, C_Not, C_Reader⟩) := ok_pair_fault D_pair_fault T G_Pair_init B_Pair_init M_Before M_Under M_Beside
  have G_Reader_init : FnOk l.prog w K mg base CX0 1 f_Reader_init _ ["self", "text"] (sp_Reader_init ⟨C_ShrinkError, C_NoThing, C_NoFault, C_NoText, C_NoRow, C_Fault, C_Has, C_Many, C_Pair, C_Before, C_Under, C_Beside, C_Joint, C_All, C_Any, C_Not, C_Reader⟩) := ok_Reader_init F_Reader_init T
  have G_Reader_is_at_end : FnOk l.prog w K mg base CX0 1 f_Reader_is_at_end _ ["self"] (sp_is_at_end ⟨C_ShrinkError, C_NoThing, C_NoFault, C_NoText, C_NoRow, C_Fault, C_Has, C_Many, C_Pair, C_Before, C_Under, C_Beside, C_Joint, C_All, C_Any, C_Not, C_Reader⟩) := ok_Reader_is_at_end F_Reader_is_at_end T
  have G_Reader_is_at : FnOk l.prog w K mg base CX0 2 f_Reader_is_at _ ["self", "sign"] (sp_is_at ⟨C_ShrinkError, C_NoThing, C_NoFault, C_NoText, C_NoRow, C_Fault, C_Has, C_Many, C_Pair, C_Before, C_Under, C_Beside, C_Joint, C_All, C_Any, C_Not, C_Reader⟩) := ok_Reader_is_at F_Reader_is_at T G_Reader_is_at_end B_Reader_is_at_end ME_Reader_is_at_end
  have G_Reader_read_sign : FnOk l.prog w K mg base (CX1 l.prog w) 3 f_Reader_read_sign _ ["self", "sign"] (sp_read_sign ⟨C_ShrinkError, C_NoThing, C_NoFault, C_NoText, C_NoRow, C_Fault, C_Has, C_Many, C_Pair, C_Before, C_Under, C_Beside, C_Joint, C_All, C_Any, C_Not, C_Reader⟩) := ok_Reader_read_sign F_Reader_read_sign T G_Reader_is_at B_Reader_is_at ME_Reader_is_at
  have G_Reader_read_run : FnOk l.prog w K mg base CX0 2 f_Reader_read_run _ ["self", "signs"] (sp_read_run ⟨C_ShrinkError, C_NoThing, C_NoFault, C_NoText, C_NoRow, C_Fault, C_Has, C_Many, C_Pair, C_Before, C_Under, C_Beside, C_Joint, C_All, C_Any, C_Not, C_Reader⟩) := ok_Reader_read_run F_Reader_read_run T G_Reader_is_at_end B_Reader_is_at_end ME_Reader_is_at_end
  have G_Reader_read_mark : FnOk l.prog w K mg base (CX1 l.prog w) 3 f_Reader_read_mark _ ["self"] (sp_read_mark ⟨C_ShrinkError, C_NoThing, C_NoFault, C_NoText, C_NoRow, C_Fault, C_Has, C_Many, C_Pair, C_Before, C_Under, C_Beside, C_Joint, C_All, C_Any, C_Not, C_Reader⟩) := ok_Reader_read_mark F_Reader_read_mark T G_Reader_read_run G_is_mark D_is_mark B_Reader_read_run ME_Reader_read_run
  have G_Reader_read_number : FnOk l.prog w K mg base (CX1 l.prog w) 3 f_Reader_read_number _ ["self"] (sp_read_number ⟨C_ShrinkError, C_NoThing, C_NoFault, C_NoText, C_NoRow, C_Fault, C_Has, C_Many, C_Pair, C_Before, C_Under, C_Beside, C_Joint, C_All, C_Any, C_Not, C_Reader⟩) := ok_Reader_read_number F_Reader_read_number T G_Reader_read_run B_Reader_read_run ME_Reader_read_run
  have G_Reader_read_many : FnOk l.prog w K mg base (CX1 l.prog w) 4 f_Reader_read_many _ ["self"] (sp_read_many ⟨C_ShrinkError, C_NoThing, C_NoFault, C_NoText, C_NoRow, C_Fault, C_Has, C_Many, C_Pair, C_Before, C_Under, C_Beside, C_Joint, C_All, C_Any, C_Not, C_Reader⟩) := ok_Reader_read_many F_Reader_read_many T G_Reader_read_number G_Reader_read_sign G_Many_init G_Reader_read_mark B_Reader_read_number B_Reader_read_sign B_Many_init B_Reader_read_mark ME_Reader_read_number ME_Reader_read_sign ME_Reader_read_mark M_Many
  have G_Reader_read_pair : FnOk l.prog w K mg base (CX1 l.prog w) 4 f_Reader_read_pair _ ["self", "word"] (sp_read_pair ⟨C_ShrinkError, C_NoThing, C_NoFault, C_NoText, C_NoRow, C_Fault, C_Has, C_Many, C_Pair, C_Before, C_Under, C_Beside, C_Joint, C_All, C_Any, C_Not, C_Reader⟩) := ok_Reader_read_pair F_Reader_read_pair T G_Reader_read_mark G_Reader_read_sign G_pair_fault D_pair_fault B_Reader_read_mark B_Reader_read_sign ME_Reader_read_mark ME_Reader_read_sign
  have GR_2 : ∀ n : Nat, (FnOk l.prog w K mg base (CX1 l.prog w) (n + 5) f_Reader_read_next fd_Reader_read_next ["self", "deep"] (sp_read_next ⟨C_ShrinkError, C_NoThing, C_NoFault, C_NoText, C_NoRow, C_Fault, C_Has, C_Many, C_Pair, C_Before, C_Under, C_Beside, C_Joint, C_All, C_Any, C_Not, C_Reader⟩ n)) ∧ (FnOk l.prog w K mg base (CX1 l.prog w) (n + 5) f_Reader_read_inside fd_Reader_read_inside ["self", "word", "deep"] (sp_read_inside ⟨C_ShrinkError, C_NoThing, C_NoFault, C_NoText, C_NoRow, C_Fault, C_Has, C_Many, C_Pair, C_Before, C_Under, C_Beside, C_Joint, C_All, C_Any, C_Not, C_Reader⟩ n)) ∧ (FnOk l.prog w K mg base (CX1 l.prog w) (n + 5) f_Reader_read_parts fd_Reader_read_parts ["self", "deep"] (sp_read_parts ⟨C_ShrinkError, C_NoThing, C_NoFault, C_NoText, C_NoRow, C_Fault, C_Has, C_Many, C_Pair, C_Before, C_Under, C_Beside, C_Joint, C_All, C_Any, C_Not, C_Reader⟩ n)) := by
    intro n
    induction n with
    | zero => exact ⟨F_Reader_read_next.okX sc_Reader_read_next (fun vs H Q E h => by obtain ⟨_, _, _, _, _, _, _, _, h, _⟩ := h; exact (absurd h (Nat.not_lt_zero _))) (fun cdv A outer s H vs Q E hr h => by obtain ⟨_, _, _, _, _, _, _, _, h, _⟩ := h; exact (absurd h (Nat.not_lt_zero _))), F_Reader_read_inside.okX sc_Reader_read_inside (fun vs H Q E h => by obtain ⟨_, _, _, _, _, _, _, _, _, h, _⟩ := h; exact (absurd h (Nat.not_lt_zero _))) (fun cdv A outer s H vs Q E hr h => by obtain ⟨_, _, _, _, _, _, _, _, _, h, _⟩ := h; exact (absurd h (Nat.not_lt_zero _))), F_Reader_read_parts.okX sc_Reader_read_parts (fun vs H Q E h => by obtain ⟨_, _, _, _, _, _, _, _, h, _⟩ := h; exact (absurd h (Nat.not_lt_zero _))) (fun cdv A outer s H vs Q E hr h => by obtain ⟨_, _, _, _, _, _, _, _, h, _⟩ := h; exact (absurd h (Nat.not_lt_zero _)))⟩
    | succ n ih =>
      obtain ⟨G_Reader_read_next, G_Reader_read_inside, G_Reader_read_parts⟩ := ih
      exact ⟨ok_Reader_read_next F_Reader_read_next T G_Reader_read_run G_Reader_read_sign G_Reader_read_inside B_Reader_read_run B_Reader_read_sign B_Reader_read_inside ME_Reader_read_run ME_Reader_read_sign ME_Reader_read_inside, ok_Reader_read_inside F_Reader_read_inside T G_Has_init G_Reader_read_mark G_Reader_read_many G_Reader_read_pair G_Joint_init G_Reader_read_parts G_Not_init G_Reader_read_next B_Has_init B_Reader_read_mark B_Reader_read_many B_Reader_read_pair B_Joint_init B_Reader_read_parts B_Not_init B_Reader_read_next ME_Reader_read_mark ME_Reader_read_many ME_Reader_read_pair ME_Reader_read_parts ME_Reader_read_next M_Has M_All M_Any M_Not, ok_Reader_read_parts F_Reader_read_parts T G_Reader_read_next G_Reader_is_at G_Reader_read_sign B_Reader_read_next B_Reader_is_at B_Reader_read_sign ME_Reader_read_next ME_Reader_is_at ME_Reader_read_sign⟩
  obtain ⟨G_Reader_read_next, G_Reader_read_inside, G_Reader_read_parts⟩ := GR_2 34
  have G_read_fault : FnOk l.prog w K mg base (CX1 l.prog w) 40 f_read_fault _ ["text"] (sp_read_fault K ⟨C_ShrinkError, C_NoThing, C_NoFault, C_NoText, C_NoRow, C_Fault, C_Has, C_Many, C_Pair, C_Before, C_Under, C_Beside, C_Joint, C_All, C_Any, C_Not, C_Reader⟩) := ok_read_fault D_read_fault T G_Reader_init G_Reader_read_next G_Reader_is_at_end B_Reader_init B_Reader_read_next B_Reader_is_at_end ME_Reader_read_next ME_Reader_is_at_end M_Reader
  have G__law_cell_at : FnOk l.prog w K mg base CX0 1 f__law_cell_at _ ["_law_script", "_law_k"] (sp__law_cell_at K) := ok__law_cell_at D__law_cell_at T
  have G__law_names : FnOk l.prog w K mg base CX0 1 f__law_names _ ["_law_cell", "_law_many"] sp__law_names := ok__law_names D__law_names T
  have G__law_leaf : FnOk l.prog w K mg base CX0 1 f__law_leaf _ ["_law_cell", "_law_names_here"] sp__law_leaf := ok__law_leaf D__law_leaf T
  have G__law_term : FnOk l.prog w K mg base CX0 2 f__law_term _ ["_law_script", "_law_begin", "_law_many", "_law_names_here"] (sp__law_term K) := ok__law_term D__law_term T G__law_leaf G__law_cell_at D__law_leaf D__law_cell_at
  have GR_1 : ∀ n : Nat, (FnOk l.prog w K mg base CX0 (n + 1) f__law_text fd__law_text ["_law_term_here"] (sp__law_text n)) := by
    intro n
    induction n with
    | zero => exact D__law_text.F.ok sc__law_text (fun vs H Q E h => by obtain ⟨_, _, _, _, _, _, h, _⟩ := h; exact (absurd h (Nat.not_lt_zero _))) (fun cdv A outer s H vs Q E hr h => by obtain ⟨_, _, _, _, _, _, h, _⟩ := h; exact (absurd h (Nat.not_lt_zero _)))
    | succ n ih =>
      have G__law_text := ih
      exact ok__law_text D__law_text T G__law_text D__law_text
  have G__law_text := GR_1 34
  have G__law_refused : FnOk l.prog w K mg base CX0 41 f__law_refused _ ["_law_text_here"] (sp__law_refused K) := ok__law_refused D__law_refused T G_read_fault D_read_fault
  have G__law_wide : FnOk l.prog w K mg base CX0 1 f__law_wide _ ["_law_one", "_law_many"] sp__law_wide := ok__law_wide D__law_wide T
  have G__law_plain_odd : FnOk l.prog w K mg base CX0 1 f__law_plain_odd _ ["_law_a", "_law_b"] sp__law_plain_odd := ok__law_plain_odd D__law_plain_odd T
  have G__law_group_odd : FnOk l.prog w K mg base CX0 2 f__law_group_odd _ ["_law_a", "_law_b"] sp__law_group_odd := ok__law_group_odd D__law_group_odd T G__law_wide D__law_wide
  have G__law_odd : FnOk l.prog w K mg base CX0 36 f__law_odd _ ["_law_script", "_law_cell", "_law_names_here"] (sp__law_odd K) := ok__law_odd D__law_odd T G__law_plain_odd G__law_group_odd G__law_text G__law_term D__law_plain_odd D__law_group_odd D__law_text D__law_term
  exact ok_law D_law T G__law_names G__law_cell_at G__law_refused G__law_odd G__law_wide G_read_fault G_Has_shown G_Many_shown G_Before_shown G_Under_shown G_Beside_shown G_All_shown G_Any_shown G_Not_shown D__law_names D__law_cell_at D__law_refused D__law_odd D__law_wide D_read_fault B_Has_shown B_Many_shown B_Before_shown B_Under_shown B_Beside_shown B_All_shown B_Any_shown B_Not_shown ME_Has_shown ME_Many_shown ME_Before_shown ME_Under_shown ME_Beside_shown ME_All_shown ME_Any_shown ME_Not_shown
theorem walk {l : PySem.W.OpenLaw} {q : Program} {loose : List Str} {XP : (Str → Option Value) → Heap → Prop} {YP : World → Heap → Prop} {d : DefRec} {K : Params → PySem.W.Frag} (hn : l.most = some 63) (hdf : d.params.defaults = [])
    (hY : ∀ (w : World) (h : Heap), YP w h → (K w.params).In h)
    (F : ∀ (w : World) (mg : Str → Option Value) (fa : Addr) (h : Heap), (K w.params).In h → h.Ns mainGlobals mg → mg d.name = some (.ref fa) →
      ∃ fd : FuncData, (∀ (s : Shared) (u : Value), BindsTo s fd ⟨[u], []⟩ [("_law_script", u)]) ∧ ∀ base : Heap, (K w.params).In base → base.Ns mainGlobals mg → FnOk l.prog w (K w.params) mg base CX0 42 fa fd ["_law_script"] (sp_law (K w.params))) :
    PySem.W.WalkO q loose XP YP l.row.toRowW d [] (fun f vs => PySem.call f vs) :=
  L2.walk_of (n := 63) (k := 42) (x := "_law_script") (CX := fun _ => CX0) (sp := fun w => sp_law (K w.params)) hn (by decide) hdf ⟨rfl, by decide, by decide⟩ hY F (fun _ _ a ns hl _ hS => ⟨a, ns, rfl, hS, hl, fun _ => rfl⟩) fun _ _ _ _ _ z => z
end K14
def PySem.W.Fast.tw6092070261273371223 : Nat := 0
def PySem.W.Fast.tw4730756124287343129 : Nat := 0
def PySem.W.Fast.tw7088384590684161315 : Nat := 0
def PySem.W.Fast.tw14293632239231532490 : Nat := 0
def PySem.W.Fast.tw11935309825543489975 : Nat := 0
def PySem.W.Fast.tw16386430858544988028 : Nat := 0
def PySem.W.Fast.tw3883443213619502949 : Nat := 0
def PySem.W.Fast.tw5378199723414348867 : Nat := 0
def PySem.W.Fast.tw12705059389847968460 : Nat := 0
def PySem.W.Fast.tw11143670371871124646 : Nat := 0
def PySem.W.Fast.tw16580608290838992883 : Nat := 0
def PySem.W.Fast.tw13295897842712586311 : Nat := 0
def PySem.W.Fast.tw10952289503009311655 : Nat := 0
def PySem.W.Fast.tw6301904319874035201 : Nat := 0
def PySem.W.Fast.tw6822346703376916951 : Nat := 0
def PySem.W.Fast.tw15243956351545776410 : Nat := 0
def PySem.W.Fast.tw11177533509201420124 : Nat := 0
def PySem.W.Fast.tw709926772984988674 : Nat := 0
def PySem.W.Fast.tw894533136200285384 : Nat := 0
def PySem.W.Fast.tw5720851231288711052 : Nat := 0
def PySem.W.Fast.tw15771265139435865005 : Nat := 0
def PySem.W.Fast.tw10542597957760998374 : Nat := 0
def PySem.W.Fast.tw6051386875166313393 : Nat := 0
def PySem.W.Fast.tw7203221025407109115 : Nat := 0
def PySem.W.Fast.tw10016888052735436925 : Nat := 0
def PySem.W.Fast.tw16756279590451768547 : Nat := 0
def PySem.W.Fast.tw2818096273680276632 : Nat := 0
def PySem.W.Fast.tw8985760661514465410 : Nat := 0
def PySem.W.Fast.tw15229588001291541962 : Nat := 0
def PySem.W.Fast.tw2700584418799076849 : Nat := 0
def PySem.W.Fast.tw8420289859968751961 : Nat := 0
def PySem.W.Fast.tw12547102034738407340 : Nat := 0
def PySem.W.Fast.tw2542775884518259361 : Nat := 0
def PySem.W.Fast.tw14229921087205160227 : Nat := 0
def PySem.W.Fast.tw10613364183391582086 : Nat := 0
def PySem.W.Fast.tw4183559319739665697 : Nat := 0
def PySem.W.Fast.tw15357326982772381872 : Nat := 0
def PySem.W.Fast.tw2389906215884675597 : Nat := 0
def PySem.W.Fast.tw9726481739949151250 : Nat := 0
def PySem.W.Fast.tw11454829040411301617 : Nat := 0
def PySem.W.Fast.tw4238800612803698064 : Nat := 0
def PySem.W.Fast.tw14419822487368174281 : Nat := 0
def PySem.W.Fast.tw11821191867042477627 : Nat := 0
def PySem.W.Fast.tw17318777308271569022 : Nat := 0
open PySem PySem.W PyProof.Rows
set_option maxRecDepth 100000 in
set_option maxHeartbeats 0 in
theorem PySem.Challenge.cw_shrinkhouse_k14_no_faults_holds : PySem.Challenge.rw_shrinkhouse_k14_no_faults.Holds := by
  w_on; o_law; k_head; (case hw => w_witness2)
  k_fill
  refine K14.walk (l := PySem.Challenge.rw_shrinkhouse_k14_no_faults) rfl rfl (fun w h Y => PySem.W.kIn_of Y) ?F
  case F =>
    intro w mg fa h KX G hmg
    refine' K14.all_mk KX G hmg ?a_ShrinkError ?a_NoThing ?a_NoFault ?a_NoText ?a_NoRow ?a_Fault ?a_Has ?a_Many ?a_Pair ?a_Before ?a_Under ?a_Beside ?a_Joint ?a_All ?a_Any ?a_Not ?a_Reader ?a_written ?l_written ?l_Has_init ?i_Has_shown ?l_Has_shown ?l_Many_init ?i_Many_shown ?l_Many_shown ?l_Pair_init ?i_Before_shown ?l_Before_shown ?i_Under_shown ?l_Under_shown ?i_Beside_shown ?l_Beside_shown ?l_Joint_init ?i_All_shown ?l_All_shown ?i_Any_shown ?l_Any_shown ?l_Not_init ?i_Not_shown ?l_Not_shown ?a_is_mark ?l_is_mark ?a_pair_fault ?l_pair_fault ?l_Reader_init ?i_Reader_is_at_end ?l_Reader_is_at_end ?i_Reader_is_at ?l_Reader_is_at ?i_Reader_read_sign ?l_Reader_read_sign ?i_Reader_read_run ?l_Reader_read_run ?i_Reader_read_mark ?l_Reader_read_mark ?i_Reader_read_number ?l_Reader_read_number ?i_Reader_read_next ?l_Reader_read_next ?i_Reader_read_inside ?l_Reader_read_inside ?i_Reader_read_many ?l_Reader_read_many ?i_Reader_read_pair ?l_Reader_read_pair ?i_Reader_read_parts ?l_Reader_read_parts ?a_read_fault ?l_read_fault ?a__law_cell_at ?l__law_cell_at ?a__law_names ?l__law_names ?a__law_leaf ?l__law_leaf ?a__law_term ?l__law_term ?a__law_text ?l__law_text ?a__law_refused ?l__law_refused ?a__law_wide ?l__law_wide ?a__law_plain_odd ?l__law_plain_odd ?a__law_group_odd ?l__law_group_odd ?a__law_odd ?l__law_odd ?a_law ?l_law ?z_ValueError ?z_all ?z_int ?z_isinstance ?z_len ?z_min ?z_range ?z_str ?z_tuple ?g_LETTERS ?g_LONGEST_MARK ?g_FIGURES ?g_MOST_FIGURES ?g_FEWEST_PARTS ?g_MOST_PARTS ?g_DEEPEST ?g_MOST_FAULTS ?x1_NoFault ?x2_NoFault ?x3_NoFault ?x4_NoFault ?x5_NoFault ?x6_NoFault ?x7_NoFault ?x8_NoFault_NoFault ?x8_NoFault_ShrinkError ?y_NoFault_NoRow ?y_NoFault_NoText ?y_NoFault_NoThing ?y_NoFault_ValueError ?r1_All ?r2_All ?r3_All ?r4_All ?n_All_parts ?r6_All ?r9_All ?r1_Any ?r2_Any ?r3_Any ?r4_Any ?n_Any_parts ?r6_Any ?r9_Any ?r1_Before ?r2_Before ?r3_Before ?r4_Before ?n_Before_one ?n_Before_other ?r6_Before ?r9_Before ?r1_Beside ?r2_Beside ?r3_Beside ?r4_Beside ?n_Beside_one ?n_Beside_other ?r6_Beside ?r9_Beside ?r1_Has ?r2_Has ?r3_Has ?r4_Has ?n_Has_mark ?r6_Has ?r9_Has ?r1_Many ?r2_Many ?r3_Many ?r4_Many ?n_Many_mark ?n_Many_number ?r6_Many ?r9_Many ?r1_Not ?r2_Not ?r3_Not ?r4_Not ?n_Not_part ?r6_Not ?r9_Not ?r1_Reader ?r2_Reader ?r3_Reader ?r4_Reader ?n_Reader_at ?n_Reader_met ?n_Reader_text ?r6_Reader ?r9_Reader ?r1_Under ?r2_Under ?r3_Under ?r4_Under ?n_Under_one ?n_Under_other ?r6_Under ?r9_Under ?r7 ?r8 ?mi_All ?m1_All ?m2_All ?mi_Any ?m1_Any ?m2_Any ?mi_Before ?m1_Before ?m2_Before ?mi_Beside ?m1_Beside ?m2_Beside ?mi_Has ?m1_Has ?m2_Has ?mi_Many ?m1_Many ?m2_Many ?mi_Not ?m1_Not ?m2_Not ?mi_Reader ?m1_Reader ?m2_Reader ?mi_Under ?m1_Under ?m2_Under
    case a_ShrinkError | a_NoThing | a_NoFault | a_NoText | a_NoRow | a_Fault | a_Has | a_Many | a_Pair | a_Before | a_Under | a_Beside | a_Joint | a_All | a_Any | a_Not | a_Reader | a_written | a_is_mark | a_pair_fault | a_read_fault | a__law_cell_at | a__law_names | a__law_leaf | a__law_term | a__law_text | a__law_refused | a__law_wide | a__law_plain_odd | a__law_group_odd | a__law_odd | a_law => k_is
    case mi_All | mi_Any | mi_Before | mi_Beside | mi_Has | mi_Many | mi_Not | mi_Reader | mi_Under => k_is
    case i_Has_shown | i_Many_shown | i_Before_shown | i_Under_shown | i_Beside_shown | i_All_shown | i_Any_shown | i_Not_shown | i_Reader_is_at_end | i_Reader_is_at | i_Reader_read_sign | i_Reader_read_run | i_Reader_read_mark | i_Reader_read_number | i_Reader_read_next | i_Reader_read_inside | i_Reader_read_many | i_Reader_read_pair | i_Reader_read_parts => k_is
    case l_written | l_Has_init | l_Has_shown | l_Many_init | l_Many_shown | l_Pair_init | l_Before_shown | l_Under_shown | l_Beside_shown | l_Joint_init | l_All_shown | l_Any_shown | l_Not_init | l_Not_shown | l_is_mark | l_pair_fault | l_Reader_init | l_Reader_is_at_end | l_Reader_is_at | l_Reader_read_sign | l_Reader_read_run | l_Reader_read_mark | l_Reader_read_number | l_Reader_read_next | l_Reader_read_inside | l_Reader_read_many | l_Reader_read_pair | l_Reader_read_parts | l_read_fault | l__law_cell_at | l__law_names | l__law_leaf | l__law_term | l__law_text | l__law_refused | l__law_wide | l__law_plain_odd | l__law_group_odd | l__law_odd | l_law => exact ⟨_, _, _, _, _, _, _, _, _, rfl, by k_is, by k_is, by k_is, by k_is⟩
    case z_ValueError | z_all | z_int | z_isinstance | z_len | z_min | z_range | z_str | z_tuple | g_LETTERS | g_LONGEST_MARK | g_FIGURES | g_MOST_FIGURES | g_FEWEST_PARTS | g_MOST_PARTS | g_DEEPEST | g_MOST_FAULTS | x2_NoFault | x3_NoFault | x4_NoFault | x5_NoFault | x6_NoFault | x7_NoFault | r1_All | r2_All | r3_All | r4_All | n_All_parts | r6_All | r9_All | r1_Any | r2_Any | r3_Any | r4_Any | n_Any_parts | r6_Any | r9_Any | r1_Before | r2_Before | r3_Before | r4_Before | n_Before_one | n_Before_other | r6_Before | r9_Before | r1_Beside | r2_Beside | r3_Beside | r4_Beside | n_Beside_one | n_Beside_other | r6_Beside | r9_Beside | r1_Has | r2_Has | r3_Has | r4_Has | n_Has_mark | r6_Has | r9_Has | r1_Many | r2_Many | r3_Many | r4_Many | n_Many_mark | n_Many_number | r6_Many | r9_Many | r1_Not | r2_Not | r3_Not | r4_Not | n_Not_part | r6_Not | r9_Not | r1_Reader | r2_Reader | r3_Reader | r4_Reader | n_Reader_at | n_Reader_met | n_Reader_text | r6_Reader | r9_Reader | r1_Under | r2_Under | r3_Under | r4_Under | n_Under_one | n_Under_other | r6_Under | r9_Under | r7 | r8 | m1_All | m2_All | m1_Any | m2_Any | m1_Before | m2_Before | m1_Beside | m2_Beside | m1_Has | m2_Has | m1_Many | m2_Many | m1_Not | m2_Not | m1_Reader | m2_Reader | m1_Under | m2_Under => k_is
    case x1_NoFault => k_exc
    case x8_NoFault_NoFault | x8_NoFault_ShrinkError => kts_exm
    case y_NoFault_NoRow | y_NoFault_NoText | y_NoFault_NoThing | y_NoFault_ValueError => kit_is
#print axioms PySem.Challenge.cw_shrinkhouse_k14_no_faults_holds
