import PyProof.Rows.All
import Wide.All
import OpenK.AllK
import Wide.FinOn
import Lean
import PyProof.EqAt
import PyProof.EqKinds
import PyProof.TupleCall
import PyProof.StrLawsIn
import KE.KTryMore
import PyProof.ListRange
import PyProof.ZipIter
import KE.KDictOf
import PyProof.Draws
import PyProof.EnumMake
import PyProof.Rows.EnumRows
import PySem.Challenge.RW_shrinkhouse_k09_before_under_beside
set_option autoImplicit false
set_option Elab.async false
set_option linter.all false
set_option maxRecDepth 100000
set_option maxHeartbeats 4000000
namespace L2
open PySem PySem.Spec PyProof.Rows
abbrev Key:=Sum Int Str
def keyIs:Key → Value → Bool
  | .inl k,v=>Value.isInt k v
  | .inr x,v=>Value.isStrOf x v
def keyH (w:World):Key → Int
  | .inl k=>hashInt k
  | .inr x=>hashStr w x
theorem keyIs_shape:∀ {k:Key} {v:Value},keyIs k v = true → (∃ i t,k = Sum.inl i ∧ v = Value.int i t) ∨ (∃ x t,k = Sum.inr x ∧ v = Value.str x t)
  | .inl i,v,h=>by
    obtain ⟨t,e⟩:=Value.isInt_shape (k:=i) (v:=v) h
    exact .inl ⟨i,t,rfl,e⟩
  | .inr x,v,h=>by
    obtain ⟨t,e⟩:=Value.isStrOf_shape (x:=x) (v:=v) h
    exact .inr ⟨x,t,rfl,e⟩
theorem keyIs_int (i:Int) (t:Tok):keyIs (.inl i) (.int i t) = true:=by simp [keyIs,Value.isInt]
theorem keyIs_str (x:Str) (t:Tok):keyIs (.inr x) (.str x t) = true:=by simp [keyIs,Value.isStrOf]
theorem key_ll (a b:Int):decide ((Sum.inl a:Key) = Sum.inl b) = (a == b):=by
  by_cases e:a = b
  · subst e; simp
  · have h:¬ (Sum.inl a:Key) = Sum.inl b:=fun q=>e (Sum.inl.inj q)
    rw [decide_eq_false h]
    exact (beq_eq_false_iff_ne.mpr e).symm
theorem key_rr (a b:Str):decide ((Sum.inr a:Key) = Sum.inr b) = decide (a = b):=by
  by_cases e:a = b
  · subst e; simp
  · have h:¬ (Sum.inr a:Key) = Sum.inr b:=fun q=>e (Sum.inr.inj q)
    rw [decide_eq_false h,decide_eq_false e]
theorem key_lr (a:Int) (b:Str):decide ((Sum.inl a:Key) = Sum.inr b) = false:=decide_eq_false (fun q=>nomatch q)
theorem key_rl (a:Str) (b:Int):decide ((Sum.inr a:Key) = Sum.inl b) = false:=decide_eq_false (fun q=>nomatch q)
def mixKind (prog:Program) (w:World):PySem.KeyKind prog w Key where
  is:=keyIs
  hash:=keyH w
  inj:=fun v a b ha hb=>by
    rcases keyIs_shape ha with ⟨i,t,rfl,rfl⟩ | ⟨x,t,rfl,rfl⟩
    · rcases keyIs_shape hb with ⟨j,u,rfl,e⟩ | ⟨y,u,rfl,e⟩
      · injection e with e1 _; rw [e1]
      · exact nomatch e
    · rcases keyIs_shape hb with ⟨j,u,rfl,e⟩ | ⟨y,u,rfl,e⟩
      · exact nomatch e
      · injection e with e1 _; rw [e1]
  byValue:=fun k v h=>by
    rcases keyIs_shape h with ⟨i,t,rfl,rfl⟩ | ⟨x,t,rfl,rfl⟩ <;> rfl
  pyHash:=fun hv h=>by
    rcases keyIs_shape hv with ⟨i,t,rfl,rfl⟩ | ⟨x,t,rfl,rfl⟩
    · exact wpAny_pyHash_int h
    · exact wpAny_pyHash_str h
  eqBool:=fun hu hv h=>by
    rcases keyIs_shape hu with ⟨i,t,rfl,rfl⟩ | ⟨x,t,rfl,rfl⟩
    · rcases keyIs_shape hv with ⟨j,u,rfl,rfl⟩ | ⟨y,u,rfl,rfl⟩
      · rw [key_ll] at h; exact wpAny_eqBool_int h
      · rw [key_lr] at h; exact SeqAt.EqAt.int_str i t y u _ _ _ _ h
    · rcases keyIs_shape hv with ⟨j,u,rfl,rfl⟩ | ⟨y,u,rfl,rfl⟩
      · rw [key_rl] at h; exact SeqAt.EqAt.str_int x t j u _ _ _ _ h
      · rw [key_rr] at h; exact wpAny_eqBool_str h
  «strs»:=fun k x t v h=>by
    rcases keyIs_shape h with ⟨i,u,rfl,e⟩ | ⟨y,u,rfl,e⟩
    · exact nomatch e
    · injection e with e1 _
      subst e1
      cases v <;> rfl
theorem mixKind_int (prog:Program) (w:World) (i:Int) (t:Tok):(mixKind prog w).is (.inl i) (.int i t) = true:=keyIs_int i t
theorem mixKind_str (prog:Program) (w:World) (x:Str) (t:Tok):(mixKind prog w).is (.inr x) (.str x t) = true:=keyIs_str x t
end L2
namespace L2
open PySem PySem.Spec PyProof.Rows
inductive V where
  | non | bl (b:Bool) | int (i:Int) | str (x:Str) | byt (b:Array UInt8) | flt (b:UInt64) | ref (a:Addr) | ty (n:String)
  deriving DecidableEq
def RelV:V → Value → Prop
  | .non,u=>u = Value.none
  | .bl b,u=>u = Value.bool b
  | .int i,u=>∃ t,u = Value.int i t
  | .str x,u=>∃ t,u = Value.str x t
  | .byt b,u=>∃ t,u = Value.bytes b t
  | .flt b,u=>∃ t,u = Value.float b t
  | .ref a,u=>u = Value.ref a
  | .ty n,u=>u = Value.type n
abbrev Vals:List V → List Value → Prop:=Paired RelV
theorem Vals.length {xs:List V} {us:List Value} (r:Vals xs us):xs.length = us.length:=Paired.length r
theorem Vals.get:∀ {xs:List V} {us:List Value} {i:Nat} {x:V},Vals xs us → xs[i]? = some x → ∃ u,us[i]? = some u ∧ RelV x u
  | _,_,_,_,.nil,e=>by simp at e
  | _,_,0,_,.cons r _,e=>by simp at e; subst e; exact ⟨_,rfl,r⟩
  | _,_,i + 1,x,.cons _ t,e=>by
    obtain ⟨u,h1,h2⟩:=Vals.get (i:=i) (x:=x) t (by simpa using e)
    exact ⟨u,by simpa using h1,h2⟩
theorem Vals.set {x:V} {u:Value} (r:RelV x u):∀ {xs:List V} {us:List Value} (i:Nat),Vals xs us → Vals (xs.set i x) (us.set i u)
  | _,_,_,.nil=>.nil
  | _,_,0,.cons _ t=>.cons r t
  | _,_,i + 1,.cons q t=>.cons q (Vals.set r i t)
theorem Vals.append:∀ {xs ys:List V} {us ws:List Value},Vals xs us → Vals ys ws → Vals (xs ++ ys) (us ++ ws)
  | _,_,_,_,.nil,s=>s
  | _,_,_,_,.cons r t,s=>.cons r (Vals.append t s)
theorem Vals.take:∀ {xs:List V} {us:List Value} (n:Nat),Vals xs us → Vals (xs.take n) (us.take n)
  | _,_,0,_=>.nil
  | _,_,_ + 1,.nil=>.nil
  | _,_,n + 1,.cons r t=>.cons r (Vals.take n t)
theorem Vals.drop:∀ {xs:List V} {us:List Value} (n:Nat),Vals xs us → Vals (xs.drop n) (us.drop n)
  | _,_,0,r=>r
  | _,_,_ + 1,.nil=>.nil
  | _,_,n + 1,.cons _ t=>Vals.drop n t
theorem Vals.none_of:∀ {xs:List V} {us:List Value} {i:Nat},Vals xs us → xs[i]? = none → us[i]? = none:=fun {xs us i} r e=>by
  have h1:=r.length
  have h2:xs.length ≤ i:=List.getElem?_eq_none_iff.mp e
  exact List.getElem?_eq_none_iff.mpr (by omega)
def RelO:Option V → Option Value → Prop
  | some v,some u=>RelV v u
  | none,none=>True
  | _,_=>False
def KV {κ:Type}:List (κ × V) → List (κ × Value) → Prop:=Paired fun (p:κ × V) (q:κ × Value)=>p.1 = q.1 ∧ RelV p.2 q.2
def kV:Key → V
  | .inl i=>.int i
  | .inr x=>.str x
inductive HO where
  
  | lst (xs:List V)
  
  | tup (xs:List V)
  
  | dK (kvs:List (Key × V)) | dT (kvs:List (List Key × V))
  
  | set (S:Int → Bool) (n:Nat)
  
  | ins (C dx:Addr) (fs:List (Str × V))
  
  | own (x:Addr)
  
  | xd (fs:List (Str × V))
  
  | met (f x:Addr)
  
  | rng (lo hi:Int)
  
  | frz (o:Obj) (u:HO)
  
  | tbl (ps:Array Value)
  
  | ext (φ:Heap → Prop)
abbrev Hp:=Addr → Option HO
def upd (H:Hp) (a:Addr) (o:HO):Hp:=fun b=>if b = a then some o else H b
theorem upd_same {H:Hp} {a:Addr} {o:HO}:upd H a o a = some o:=by unfold upd; rw [if_pos rfl]
theorem upd_ne {H:Hp} {a b:Addr} {o:HO} (h:b ≠ a):upd H a o b = H b:=by unfold upd; rw [if_neg h]
theorem upd_upd {H:Hp} {a:Addr} {o u:HO}:upd (upd H a o) a u = upd H a u:=by
  funext b; unfold upd; split <;> rfl
theorem ne_of {H:Hp} {a b:Addr} {o u:HO} (h:H a = some o) (h':H b = some u) (d:o ≠ u):a ≠ b:=by
  intro e; subst e; rw [h] at h'; exact d (Option.some.inj h')
theorem ne_of_none {H:Hp} {a b:Addr} {o:HO} (h:H a = some o) (h':H b = none):a ≠ b:=by
  intro e; subst e; rw [h] at h'; cases h'
section
variable (P:Program) (w:World)
def ObjOk (H:Hp) (h:Heap) (a:Addr):HO → Prop
  | .lst xs=>xs.length ≤ sizeLine ∧ ∃ (its:List Value) (n:Nat),Vals xs its ∧ h.get? a = some { cls:=.type "list",data:=.seq its.toArray n }
  | .tup xs=>xs.length ≤ sizeLine ∧ ∃ its:List Value,Vals xs its ∧ IsTup h a its.toArray
  | .dK kvs=>kvs.length ≤ sizeLine ∧ (a == sysModules) = false ∧ ∃ vs,KV kvs vs ∧ h.DictOf (mixKind P w) a vs
  | .dT kvs=>kvs.length ≤ sizeLine ∧ (a == sysModules) = false ∧ ∃ xs:List (List Key × Addr × Value),
      Paired (fun (p:List Key × V) (q:List Key × Addr × Value)=>p.1 = q.1 ∧ H q.2.1 = some (.tup (p.1.map kV)) ∧ RelV p.2 q.2.2) kvs xs ∧
      ∃ o es ep,h.get? a = some o ∧ o.ExactDict ∧ o.data = .dict es ep ∧ es.toList = xs.map (entryOfKey (tupleKind (mixKind P w))) ∧ (xs.map (·.1)).Nodup
  | .set S n=>h.SetOf (intKind P w) a S n
  | .ins C dx fs=>H dx = some (.own a) ∧ fs.length ≤ 1000 ∧ dx ≠ a ∧ h.get? a = some (PySem.W.instObj C dx) ∧
      ∃ mA,h.Ns1 dx mA ∧ (∀ f,RelO (fs.lookup f) (mA f)) ∧ PySem.Within mA (fs.map (·.1))
  | .own _=>∃ o,h.get? a = some o
  | .xd fs=>∃ mA,h.Ns1 a mA ∧ ∀ f,RelO (fs.lookup f) (mA f)
  | .rng lo hi=>∃ t u v,h.get? a = some { cls:=.type "range",data:=.fields #[.int lo t,.int hi u,.int 1 v] }
  | .frz o u=>h.get? a = some o ∧ ObjOk H h a u
  | .tbl ps=>h.get? a = some { cls:=.none,data:=.fields ps }
  | .met f x=>h.get? a = some (PySem.W.methodObj (.ref f) (.ref x))
  | .ext φ=>φ h ∧ (∃ o,h.get? a = some o) ∧ ∀ h1 h2:Heap,φ h1 → (∀ o,h1.get? a = some o → h2.get? a = some o) → φ h2
def HOk (H:Hp) (h:Heap):Prop:=∀ a o,H a = some o → ObjOk P w H h a o
end
section
variable {P:Program} {w:World} {H H':Hp} {h h':Heap} {a:Addr} {o:HO}
theorem ObjOk.lt (x:ObjOk P w H h a o):a < h.objs.size:=by
  cases o with
  | lst xs=>obtain ⟨_,_,_,_,e⟩:=x; exact Heap.lt_size e
  | tup xs=>obtain ⟨_,_,_,p⟩:=x; exact p.lt
  | dK kvs=>obtain ⟨_,_,_,_,o,_,_,e,_⟩:=x; exact Heap.lt_size e
  | dT kvs=>obtain ⟨_,_,_,_,o,_,_,e,_⟩:=x; exact Heap.lt_size e
  | set S n=>obtain ⟨o,_,_,_,e,_⟩:=x; exact Heap.lt_size e
  | ins C dx fs=>obtain ⟨_,_,_,e,_⟩:=x; exact Heap.lt_size e
  | own y=>obtain ⟨_,e⟩:=x; exact Heap.lt_size e
  | xd fs=>obtain ⟨_,⟨_,_,_,e,_⟩,_⟩:=x; exact Heap.lt_size e
  | rng lo hi=>obtain ⟨_,_,_,e⟩:=x; exact Heap.lt_size e
  | frz ob u=>obtain ⟨e,_⟩:=x; exact Heap.lt_size e
  | tbl ps=>exact Heap.lt_size (show h.get? a = some _ from x)
  | met f y=>exact Heap.lt_size (show h.get? a = some _ from x)
  | ext φ=>obtain ⟨_,⟨_,e⟩,_⟩:=x; exact Heap.lt_size e
theorem Paired.mapP {α β:Type} {F G:α → β → Prop}:∀ {l₁:List α} {l₂:List β},Paired F l₁ l₂ → (∀ a b,F a b → G a b) → Paired G l₁ l₂
  | _,_,.nil,_=>.nil
  | _,_,.cons r t,f=>.cons (f _ _ r) (Paired.mapP t f)
theorem ObjOk.stay (x:ObjOk P w H h a o) (k:∀ b u,(b = a ∨ H b = some (.own a)) → h.get? b = some u → h'.get? b = some u)
    (ho:∀ b,H b = some (.own a) → H' b = some (.own a)) (ht:∀ b xs,H b = some (.tup xs) → H' b = some (.tup xs)):ObjOk P w H' h' a o:=by
  induction o with
  | lst xs=>obtain ⟨z,its,n,r,e⟩:=x; exact ⟨z,its,n,r,k _ _ (.inl rfl) e⟩
  | tup xs=>obtain ⟨z,its,r,ob,e,c⟩:=x; exact ⟨z,its,r,ob,k _ _ (.inl rfl) e,c⟩
  | dK kvs=>obtain ⟨z,y,vs,r,ob,es,ep,e,c⟩:=x; exact ⟨z,y,vs,r,ob,es,ep,k _ _ (.inl rfl) e,c⟩
  | dT kvs =>
    obtain ⟨z,y,xs,r,ob,es,ep,e,c⟩:=x
    exact ⟨z,y,xs,Paired.mapP r fun p q z=>⟨z.1,ht _ _ z.2.1,z.2.2⟩,ob,es,ep,k _ _ (.inl rfl) e,c⟩
  | set S n=>obtain ⟨ob,es,ep,t,e,c⟩:=x; exact ⟨ob,es,ep,t,k _ _ (.inl rfl) e,c⟩
  | ins C dx fs =>
    obtain ⟨d,z,ne,e,mA,⟨od,es,ep,e2,c⟩,r⟩:=x
    exact ⟨ho _ d,z,ne,k _ _ (.inl rfl) e,mA,⟨od,es,ep,k _ _ (.inr d) e2,c⟩,r⟩
  | own y=>obtain ⟨ob,e⟩:=x; exact ⟨ob,k _ _ (.inl rfl) e⟩
  | xd fs=>obtain ⟨mA,⟨od,es,ep,e,c⟩,r⟩:=x; exact ⟨mA,⟨od,es,ep,k _ _ (.inl rfl) e,c⟩,r⟩
  | rng lo hi=>obtain ⟨t,u,v,e⟩:=x; exact ⟨t,u,v,k _ _ (.inl rfl) e⟩
  | frz ob u ih=>obtain ⟨e,q⟩:=x; exact ⟨k _ _ (.inl rfl) e,ih q⟩
  | tbl ps =>
    have e:h.get? a = some { cls:=.none,data:=.fields ps }:=x
    show h'.get? a = some { cls:=.none,data:=.fields ps }
    exact k a _ (.inl rfl) e
  | met f y =>
    have e:h.get? a = some (PySem.W.methodObj (.ref f) (.ref y)):=x
    show h'.get? a = some (PySem.W.methodObj (.ref f) (.ref y))
    exact k a _ (.inl rfl) e
  | ext φ=>obtain ⟨p,⟨o,e⟩,st⟩:=x; exact ⟨st _ _ p fun o q=>k _ _ (.inl rfl) q,⟨o,k _ _ (.inl rfl) e⟩,st⟩
theorem HOk.lt (x:HOk P w H h) (e:H a = some o):a < h.objs.size:=(x a o e).lt
theorem HOk.fresh (x:HOk P w H h) (e:h.objs.size ≤ a):H a = none:=by
  cases q:H a with
  | none=>rfl
  | some u=>exact absurd (Nat.lt_of_lt_of_le (x.lt q) e) (Nat.lt_irrefl _)
theorem HOk.kept (x:HOk P w H h) (k:∀ b u,h.get? b = some u → h'.get? b = some u):HOk P w H h':=fun a o e =>
  (x a o e).stay (fun b u _ q=>k b u q) (fun _ q=>q) fun _ _ q=>q
theorem HOk.laid (x:HOk P w H h) (k:∀ b u,h.get? b = some u → h'.get? b = some u) (hp:h.objs.size ≤ a) (new:ObjOk P w (upd H a o) h' a o):HOk P w (upd H a o) h':=fun b u e=>by
  have hn:=x.fresh hp
  by_cases hb:b = a
  · subst hb; rw [upd_same] at e; cases e; exact new
  · rw [upd_ne hb] at e
    exact (x b u e).stay (fun c v _ q=>k c v q) (fun c q=>by rw [upd_ne (ne_of_none q hn)]; exact q) fun c xs q=>by rw [upd_ne (ne_of_none q hn)]; exact q
end
def Rd (H:Hp) (a:Addr) (u:HO):Prop:=H a = some u ∨ ∃ o,H a = some (.frz o u)
theorem Rd.of {H:Hp} {a:Addr} {u:HO} (h:H a = some u):Rd H a u:=.inl h
theorem Rd.ok {P:Program} {w:World} {H:Hp} {h:Heap} {a:Addr} {u:HO} (r:Rd H a u) (x:HOk P w H h):ObjOk P w H h a u:=by
  rcases r with r | ⟨o,r⟩
  · exact x a u r
  · obtain ⟨_,q⟩:=x a _ r
    exact q
def Mut:Option HO → Prop
  | some (.lst _)=>True
  | some (.dK _)=>True
  | some (.dT _)=>True
  | some (.set _ _)=>True
  | some (.ins _ _ _)=>True
  | some (.ext _)=>True
  | _=>False
section
variable {P:Program} {w:World} {H:Hp} {h h':Heap} {x e:Addr} {o':HO}
theorem HOk.write (ok:HOk P w H h) (mu:Mut (H x)) (he:e = x ∨ H e = some (.own x)) (k:∀ b u,b ≠ e → h.get? b = some u → h'.get? b = some u) (heo:∃ u,h'.get? e = some u)
    (new:ObjOk P w (upd H x o') h' x o'):HOk P w (upd H x o') h':=fun b u q=>by
  have nown:∀ c y,H c = some (.own y) → c ≠ x:=fun c y r z=>by subst z; rw [r] at mu; exact mu
  have ntup:∀ c xs,H c = some (.tup xs) → c ≠ x:=fun c xs r z=>by subst z; rw [r] at mu; exact mu
  by_cases hb:b = x
  · subst hb; rw [upd_same] at q; cases q; exact new
  · rw [upd_ne hb] at q
    by_cases hbe:b = e
    · have q':H b = some (.own x):=by
        rcases he with z | z
        · exact absurd (hbe.trans z) hb
        · rw [hbe]; exact z
      rw [q] at q'; cases q'
      obtain ⟨v,hv⟩:=heo
      exact ⟨v,by rw [hbe]; exact hv⟩
    · refine (ok b u q).stay (fun c v hc r=>k c v ?_ r) (fun c r=>by rw [upd_ne (nown c b r)]; exact r) fun c xs r=>by rw [upd_ne (ntup c xs r)]; exact r
      rcases hc with rfl | hc
      · exact hbe
      · rintro rfl
        rcases he with z | z
        · exact nown c b hc z
        · rw [hc] at z; cases z; exact hb rfl
end
structure Un (fs ex:List Addr) (H H':Hp) (h h':Heap):Prop where
  keep:∀ b o,h.get? b = some o → H b = none → b ∉ fs → b ∉ ex → h'.get? b = some o
  slot:∀ b o,h.get? b = some o → H b = none → b ∈ fs → b ∉ ex → ∃ sl,h'.get? b = some { o with slots:=sl }
  free:∀ b o,h.get? b = some o → H b = none → b ∉ ex → H' b = none
  there:∀ b o,h.get? b = some o → b ∉ ex → ∃ o',h'.get? b = some o'
  tups:∀ b xs,H b = some (.tup xs) → H' b = some (.tup xs)
  frzs:∀ b o u,H b = some (.frz o u) → H' b = some (.frz o u)
  tbls:∀ b ps,H b = some (.tbl ps) → ∃ more,H' b = some (.tbl (ps ++ more))
section
variable {fs fs' ex ex':List Addr} {H H1 H2:Hp} {h h1 h2 h':Heap} {a x e:Addr} {o:HO}
theorem Un.any (u:Un fs ex H H1 h h1) {b:Addr} {ob:Obj} (q:h.get? b = some ob) (n:H b = none) (hx:b ∉ ex):∃ sl,h1.get? b = some { ob with slots:=sl }:=by
  by_cases hb:b ∈ fs
  · exact u.slot b ob q n hb hx
  · exact ⟨ob.slots,u.keep b ob q n hb hx⟩
theorem Un.trans (a:Un fs ex H H1 h h1) (b:Un fs ex H1 H2 h1 h2):Un fs ex H H2 h h2 where
  keep:=fun c ob q n hc hx=>b.keep c ob (a.keep c ob q n hc hx) (a.free c ob q n hx) hc hx
  slot:=fun c ob q n hc hx=>by
    obtain ⟨sl,e1⟩:=a.slot c ob q n hc hx
    obtain ⟨sl',e2⟩:=b.slot c _ e1 (a.free c ob q n hx) hc hx
    exact ⟨sl',e2⟩
  free:=fun c ob q n hx=>by
    obtain ⟨o',e1⟩:=a.there c ob q hx
    exact b.free c o' e1 (a.free c ob q n hx) hx
  there:=fun c ob q hx=>by
    obtain ⟨o',e1⟩:=a.there c ob q hx
    exact b.there c o' e1 hx
  tups:=fun c xs q=>b.tups c xs (a.tups c xs q)
  frzs:=fun c ob xs q=>b.frzs c ob xs (a.frzs c ob xs q)
  tbls:=fun c ps q=>by
    obtain ⟨m1,e1⟩:=a.tbls c ps q
    obtain ⟨m2,e2⟩:=b.tbls c _ e1
    exact ⟨m1 ++ m2,by rw [e2,Array.append_assoc]⟩
theorem Un.kept (k:∀ b u,h.get? b = some u → h'.get? b = some u):Un fs ex H H h h' :=
  ⟨fun b ob q _ _ _=>k b ob q,fun b ob q _ _ _=>⟨ob.slots,k b ob q⟩,fun _ _ _ n _=>n,fun b ob q _=>⟨ob,k b ob q⟩,fun _ _ q=>q,fun _ _ _ q=>q,fun _ ps q=>⟨#[],by rw [q]; simp⟩⟩
theorem Un.refl:Un fs ex H H h h:=Un.kept fun _ _ q=>q
theorem Un.laid (k:∀ b u,h.get? b = some u → h'.get? b = some u) (hp:h.objs.size ≤ a) (hn:H a = none):Un fs ex H (upd H a o) h h' where
  keep:=fun b u q _ _ _=>k b u q
  slot:=fun b u q _ _ _=>⟨u.slots,k b u q⟩
  free:=fun b u q n _=>by rw [upd_ne (Nat.ne_of_lt (Nat.lt_of_lt_of_le (Heap.lt_size q) hp))]; exact n
  there:=fun b u q _=>⟨u,k b u q⟩
  tups:=fun b xs q=>by rw [upd_ne (ne_of_none q hn)]; exact q
  frzs:=fun b u xs q=>by rw [upd_ne (ne_of_none q hn)]; exact q
  tbls:=fun b ps q=>⟨#[],by rw [upd_ne (ne_of_none q hn),q]; simp⟩
theorem Un.write (mu:Mut (H x)) (he:e = x ∨ H e = some (.own x)) (k:∀ b u,b ≠ e → h.get? b = some u → h'.get? b = some u) (heo:∃ u,h'.get? e = some u):Un fs ex H (upd H x o) h h':=by
  have hx:∀ b,H b = none → b ≠ x:=fun b n z=>by subst z; rw [n] at mu; exact mu
  have hb:∀ b,H b = none → b ≠ e:=fun b n z=>by
    subst z
    rcases he with r | r
    · exact hx b n r
    · rw [n] at r; cases r
  have hm:∀ b u,H b = some u → ¬ Mut (some u) → b ≠ x:=fun b u q nm z=>by subst z; rw [q] at mu; exact nm mu
  refine ⟨fun b u q n _ _=>k b u (hb b n) q,fun b u q n _ _=>⟨u.slots,k b u (hb b n) q⟩,fun b u q n _=>by rw [upd_ne (hx b n)]; exact n,fun b u q _=>?_,
    fun b xs q=>by rw [upd_ne (hm b _ q fun z=>z)]; exact q,fun b u xs q=>by rw [upd_ne (hm b _ q fun z=>z)]; exact q,fun b ps q=>⟨#[],by rw [upd_ne (hm b _ q fun z=>z),q]; simp⟩⟩
  by_cases hbe:b = e
  · subst hbe; exact heo
  · exact ⟨u,k b u hbe q⟩
theorem Un.mono (u:Un fs ex H H1 h h1) (hs:∀ b ∈ fs,b ∈ fs') (hx:∀ b ∈ ex,b ∈ ex'):Un fs' ex' H H1 h h1 :=
  ⟨fun b ob q n hb he=>u.keep b ob q n (fun z=>hb (hs b z)) fun z=>he (hx b z),fun _ _ q n _ he=>u.any q n fun z=>he (hx _ z),fun b ob q n he=>u.free b ob q n fun z=>he (hx b z),fun b ob q he=>u.there b ob q fun z=>he (hx b z),u.tups,u.frzs,u.tbls⟩
end
def trk (h:Heap) (H:Hp):List Addr:=(List.range h.objs.size).filter fun a=>(H a).isSome
def hidT (h:Heap) (H:Hp):Heap:=PySem.W.hideAll h (trk h H)
theorem hidT_size (h:Heap) (H:Hp):(hidT h H).objs.size = h.objs.size:=PySem.W.hideAll_size _ _
theorem hidT_get {h:Heap} {H:Hp} {b:Addr} {o:Obj} (e:h.get? b = some o) (n:H b = none):(hidT h H).get? b = some o :=
  PySem.W.hideAll_get _ e fun hm=>by
    have q:(H b).isSome = true:=(List.mem_filter.mp hm).2
    rw [n] at q; simp at q
theorem of_hidT {h:Heap} {H:Hp} {b:Addr} {o:Obj} (e:(hidT h H).get? b = some o):h.get? b = some o ∧ H b = none:=by
  have e':h.get? b = some o:=PySem.W.of_hideAll (trk h H) e
  refine ⟨e',?_⟩
  cases q:H b with
  | none=>rfl
  | some x =>
    have hm:b ∈ trk h H:=List.mem_filter.mpr ⟨List.mem_range.mpr (Heap.lt_size e'),by simp [q]⟩
    have z:(hidT h H).get? b = none:=PySem.W.hideAll_none (trk h H) hm
    rw [z] at e; cases e
def allNews (g h:Heap) (L:Addr):List (Addr × Obj):=(List.range h.objs.size).filterMap fun a=>if a = L ∨ (g.get? a).isSome = true then none else (h.get? a).map fun o=>(a,o)
def rest (g h:Heap) (L d:Addr):List (Addr × Obj):=(allNews g h L).filter fun p=>decide (p.1 ≠ d)
end L2
namespace L2
open PySem PySem.Spec PyProof.Rows
structure Mod (K:PySem.W.Frag) (mg:Str → Option Value) (base:Heap):Prop where
  kin:K.In base
  glob:base.Ns mainGlobals mg
  blt:∃ mb,base.Ns builtinsNs mb ∧ ∀ x:Str,x ≠ "__name__" → mb x = bootBuiltins x
  nolimit:base.NoLimit
structure Cx where
  prog:Program
  w:World
  K:PySem.W.Frag
  mg:Str → Option Value
  base:Heap
  A:Around
  N:List Str
  s₀:Shared
  H₀:Hp
  env:Env
  outer:List Env
  stack:List Env
  ex:List Addr
  fn:Str → Bool
  calm:Bool
  pn:List (Addr × Obj)
  xe:Value → Shared → Prop
def frs (l:List Env):List Addr:=l.filterMap (·.frame)
abbrev Cx.fs (X:Cx):List Addr:=frs X.outer
def Vis (sc:Scope) (x:Str):Prop:=sc.names.lookup x = some .local ∨ sc.names.lookup x = some .cell ∨ sc.names.lookup x = some .free
def Loc (sc:Scope) (x:Str):Prop:=sc.names.lookup x = some .local ∨ sc.names.lookup x = some .cell
def Look (env:Env) (h:Heap) (m:Str → Option Value) (x:Str) (u:Value):Prop :=
  (env.kindOf x = some .local ∧ m x = some u) ∨ ((env.kindOf x = some .cell ∨ env.kindOf x = some .free) ∧ ∃ c,env.cells.lookup x = some c ∧ h.IsCell c (some u))
structure Cx.Ok (X:Cx):Prop where
  mod:Mod X.K X.mg X.base
  kind:X.env.scope.kind = .function
  glob:X.env.globals = mainGlobals
  blt:X.env.builtins = builtinsNs
  above:X.s₀.heap.objs.size ≤ X.env.locals
  inj:∀ x y c,X.env.cells.lookup x = some c → X.env.cells.lookup y = some c → x = y
  has:∀ x,(X.env.kindOf x = some .cell ∨ X.env.kindOf x = some .free) → ∃ c,X.env.cells.lookup x = some c
  cab:∀ x c,X.fn x = true → X.env.cells.lookup x = some c → X.s₀.heap.objs.size ≤ c
  hd:X.calm = true → X.A.handled = none
  frames:X.A.frames = some X.stack
  stk:X.stack = X.outer ∨ (X.stack = X.env :: X.outer ∧ X.env.frame = some X.env.locals)
  exf:∀ b ∈ X.ex,b ≠ X.env.locals ∧ ∀ x c,X.env.cells.lookup x = some c → c ≠ b
  bs:∀ b o,X.base.get? b = some o → X.s₀.heap.get? b = some o ∧ X.H₀ b = none
  bsz:X.base.objs.size ≤ X.s₀.heap.objs.size
  noex:∀ b o,X.base.get? b = some o → b ∉ X.ex
  exfs:∀ b ∈ X.ex,b ∉ X.fs
  funs:X.s₀.heap.FunFrames X.base X.outer
  frf:∀ b ∈ X.fs,X.H₀ b = none
structure Inv (X:Cx) (pins:List (Addr × Obj)) (σ:List (Option V)) (H:Hp) (s:Shared):Prop where
  ok:X.Ok
  os:s.os = X.s₀.os
  bare:AllBare s.gens
  base:Un X.fs X.ex X.H₀ H X.s₀.heap s.heap
  loc:∃ m,s.heap.Ns X.env.locals m ∧ ∀ (i:Nat) (x:Str) (v:V),X.N[i]? = some x → σ[i]? = some (some v) → Vis X.env.scope x → ∃ u,RelV v u ∧ Look X.env s.heap m x u
  cell:∀ x c,X.env.cells.lookup x = some c → ∃ v,s.heap.IsCell c v
  free:H X.env.locals = none
  freeC:∀ x c,X.env.cells.lookup x = some c → H c = none
  pin:∀ p ∈ X.pn ++ pins,s.heap.get? p.1 = some p.2 ∧ H p.1 = none ∧ p.1 ≠ X.env.locals ∧ p.1 ∉ X.fs ∧ ∀ v,p.2.data ≠ .cell v
  hok:HOk X.prog X.w H s.heap
  len:σ.length = X.N.length
section
variable {X:Cx} {pins:List (Addr × Obj)} {σ:List (Option V)} {H H':Hp} {s:Shared} {h':Heap}
theorem Cx.Ok.nofr (ok:X.Ok) {b:Addr} {o:Obj} (e:X.base.get? b = some o):b ∉ X.fs:=fun hb=>by
  have:=(ok.funs.mem hb).1
  rw [e] at this; cases this
theorem Inv.bs (I:Inv X pins σ H s):∀ b o,X.base.get? b = some o → s.heap.get? b = some o ∧ H b = none:=fun b o e =>
  ⟨I.base.keep b o (I.ok.bs b o e).1 (I.ok.bs b o e).2 (I.ok.nofr e) (I.ok.noex b o e),I.base.free b o (I.ok.bs b o e).1 (I.ok.bs b o e).2 (I.ok.noex b o e)⟩
theorem Inv.bk (I:Inv X pins σ H s):∀ b o,X.base.get? b = some o → s.heap.get? b = some o:=fun b o e=>(I.bs b o e).1
theorem Inv.mod (I:Inv X pins σ H s):Mod X.K X.mg X.base:=I.ok.mod
theorem Inv.kIn (I:Inv X pins σ H s):X.K.In s.heap:=I.ok.mod.kin.keeps I.bk
theorem Inv.nolimit (I:Inv X pins σ H s):s.heap.NoLimit:=I.ok.mod.nolimit.keeps I.bk
theorem Inv.fr (I:Inv X pins σ H s):∃ m,Fr X.base X.env.locals s.heap m :=
  let ⟨m,hn,_⟩:=I.loc
  ⟨m,hn,I.bk,Nat.le_trans I.ok.bsz I.ok.above⟩
theorem Inv.lt (I:Inv X pins σ H s):X.env.locals < s.heap.objs.size:=let ⟨_,hn,_⟩:=I.loc; hn.lt
theorem Inv.sz (I:Inv X pins σ H s):X.s₀.heap.objs.size ≤ s.heap.objs.size:=Nat.le_trans I.ok.above (Nat.le_of_lt I.lt)
theorem Inv.nofs (I:Inv X pins σ H s) {a:Addr} (h:s.heap.objs.size ≤ a):a ∉ X.fs:=fun hb=>by
  obtain ⟨_,o,ho,_⟩:=I.ok.funs.mem hb
  exact absurd (Nat.lt_of_lt_of_le (Heap.lt_size ho) (Nat.le_trans I.sz h)) (Nat.lt_irrefl _)
theorem Inv.cne (I:Inv X pins σ H s):∀ x c,X.env.cells.lookup x = some c → c ≠ X.env.locals:=fun x c e z=>by
  obtain ⟨v,o,ho,hd⟩:=I.cell x c e
  obtain ⟨m,⟨o',es,ep,ho',hd',_⟩,_⟩:=I.loc
  rw [z,ho'] at ho; cases ho; rw [hd'] at hd; cases hd
theorem Inv.funs (I:Inv X pins σ H s):s.heap.FunFrames X.base X.outer:=by
  have all:∀ (l:List Env),(∀ b ∈ frs l,b ∈ X.fs) → X.s₀.heap.FunFrames X.base l → s.heap.FunFrames X.base l:=by
    intro l
    induction l with
    | nil=>intro _ _; trivial
    | cons env r ih =>
      intro hs hl
      obtain ⟨hk,⟨L,o,hf,hn,ho,hd⟩,hr⟩:=hl
      have hL:L ∈ X.fs:=hs L (by unfold frs; rw [List.filterMap_cons,hf]; exact List.mem_cons_self)
      obtain ⟨sl,e⟩:=I.base.slot L o ho (I.ok.frf L hL) hL fun z=>I.ok.exfs L z hL
      exact ⟨hk,⟨L,_,hf,hn,e,hd⟩,ih (fun b hb=>hs b (by unfold frs; rw [List.filterMap_cons,hf]; exact List.mem_cons_of_mem _ hb)) hr⟩
  exact all X.outer (fun _ hb=>hb) I.ok.funs
theorem Inv.stack (I:Inv X pins σ H s):s.heap.FunFrames X.base X.stack:=by
  rcases I.ok.stk with e | ⟨e,hf⟩
  · rw [e]; exact I.funs
  · rw [e]
    obtain ⟨m,hn,_⟩:=I.loc
    refine .cons (by rw [I.ok.kind]; decide) hf hn ?_ I.funs
    exact Heap.get?_none_of_le (Nat.le_trans I.ok.bsz I.ok.above)
theorem Inv.stkSub (I:Inv X pins σ H s):∀ b ∈ frs X.stack,b ∈ X.env.locals :: X.fs:=fun b hb=>by
  rcases I.ok.stk with e | ⟨e,hf⟩
  · rw [e] at hb; exact List.mem_cons_of_mem _ hb
  · rw [e] at hb
    unfold frs at hb
    rw [List.filterMap_cons,hf] at hb
    exact hb
theorem Inv.stkFree (I:Inv X pins σ H s):∀ b ∈ frs X.stack,H b = none:=fun b hb=>by
  rcases List.mem_cons.mp (I.stkSub b hb) with e | hb
  · rw [e]; exact I.free
  · obtain ⟨_,o,ho,_⟩:=I.ok.funs.mem hb
    exact I.base.free b o ho (I.ok.frf b hb) fun z=>I.ok.exfs b z hb
theorem Inv.step {g':Array GenState} {t':Nat} {d':Drawn} {ch:List Addr} (I:Inv X pins σ H s)
    (hch:∀ b ∈ ch,(b ∈ X.ex ∨ X.s₀.heap.objs.size ≤ b) ∧ b ≠ X.env.locals ∧ (∀ x c,X.env.cells.lookup x = some c → c ≠ b) ∧ ∀ p ∈ X.pn ++ pins,p.1 ≠ b)
    (keep:∀ b o,b ≠ X.env.locals → b ∉ X.fs → b ∉ ch → s.heap.get? b = some o → H b = none → h'.get? b = some o)
    (slot:∀ b o,b ≠ X.env.locals → b ∈ X.fs → b ∉ ch → s.heap.get? b = some o → H b = none → ∃ sl,h'.get? b = some { o with slots:=sl }) (free:∀ b o,b ∉ ch → s.heap.get? b = some o → H b = none → H' b = none)
    (there:∀ b o,b ∉ ch → s.heap.get? b = some o → ∃ o',h'.get? b = some o')
    (tups:∀ b xs,H b = some (.tup xs) → H' b = some (.tup xs)) (frzs:∀ b o u,H b = some (.frz o u) → H' b = some (.frz o u)) (tbls:∀ b ps,H b = some (.tbl ps) → ∃ more,H' b = some (.tbl (ps ++ more)))
    (ns:∀ m,s.heap.Ns X.env.locals m → h'.Ns X.env.locals m) (hok:HOk X.prog X.w H' h') (hg:AllBare g') :
    Inv X pins σ H' { s with heap:=h',gens:=g',drawn:=d',toks:=t' }:=by
  have neL:∀ b o,X.s₀.heap.get? b = some o → b ≠ X.env.locals:=fun b o e=>Nat.ne_of_lt (Nat.lt_of_lt_of_le (Heap.lt_size e) I.ok.above)
  have neC:∀ b o,X.s₀.heap.get? b = some o → b ∉ X.ex → b ∉ ch:=fun b o e hx hb=>by
    rcases (hch b hb).1 with z | z
    · exact hx z
    · exact absurd (Nat.lt_of_lt_of_le (Heap.lt_size e) z) (Nat.lt_irrefl _)
  have cellK:∀ x c,X.env.cells.lookup x = some c → ∀ v,s.heap.IsCell c v → h'.IsCell c v:=fun x c e v ⟨o,ho,hd⟩=>by
    have nch:c ∉ ch:=fun z=>(hch c z).2.2.1 x c e rfl
    by_cases hc:c ∈ X.fs
    · obtain ⟨sl,q⟩:=slot c o (I.cne x c e) hc nch ho (I.freeC x c e)
      exact ⟨_,q,hd⟩
    · exact ⟨o,keep c o (I.cne x c e) hc nch ho (I.freeC x c e),hd⟩
  refine ⟨I.ok,I.os,hg,⟨fun b o e n hb hx=>?_,fun b o e n hb hx=>?_,fun b o e n hx=>?_,fun b o e hx=>?_,fun b xs e=>tups b xs (I.base.tups b xs e),fun b o xs e=>frzs b o xs (I.base.frzs b o xs e),fun b ps e=>?_⟩,?_,fun x c e=>?_,?_,fun x c e=>?_,fun p hp=>?_,hok,I.len⟩
  · exact keep b o (neL b o e) hb (neC b o e hx) (I.base.keep b o e n hb hx) (I.base.free b o e n hx)
  · obtain ⟨sl,e1⟩:=I.base.slot b o e n hb hx
    obtain ⟨sl',e2⟩:=slot b _ (neL b o e) hb (neC b o e hx) e1 (I.base.free b o e n hx)
    exact ⟨sl',e2⟩
  · obtain ⟨o',e1⟩:=I.base.there b o e hx
    exact free b o' (neC b o e hx) e1 (I.base.free b o e n hx)
  · obtain ⟨o',e1⟩:=I.base.there b o e hx
    exact there b o' (neC b o e hx) e1
  · obtain ⟨m1,e1⟩:=I.base.tbls b ps e
    obtain ⟨m2,e2⟩:=tbls b _ e1
    exact ⟨m1 ++ m2,by rw [e2,Array.append_assoc]⟩
  · obtain ⟨m,hn,hl⟩:=I.loc
    refine ⟨m,ns m hn,fun i x v e1 e2 e3=>?_⟩
    obtain ⟨u,r,l⟩:=hl i x v e1 e2 e3
    refine ⟨u,r,?_⟩
    rcases l with l | ⟨k,c,e,z⟩
    · exact .inl l
    · exact .inr ⟨k,c,e,cellK x c e _ z⟩
  · obtain ⟨v,z⟩:=I.cell x c e
    exact ⟨v,cellK x c e v z⟩
  · obtain ⟨m,⟨o,_,_,ho,_⟩,_⟩:=I.loc
    exact free _ o (fun z=>(hch _ z).2.1 rfl) ho I.free
  · obtain ⟨v,o,ho,hd⟩:=I.cell x c e
    exact free c o (fun z=>(hch c z).2.2.1 x c e rfl) ho (I.freeC x c e)
  · obtain ⟨e,n,ne,nf,d⟩:=I.pin p hp
    have nch:p.1 ∉ ch:=fun z=>(hch p.1 z).2.2.2 p hp rfl
    exact ⟨keep p.1 p.2 ne nf nch e n,free p.1 p.2 nch e n,ne,nf,d⟩
theorem Inv.un {t':Nat} (I:Inv X pins σ H s) (u:Un X.fs [] H H' s.heap h') (hok:HOk X.prog X.w H' h'):Inv X pins σ H' { s with heap:=h',toks:=t' }:=by
  obtain ⟨m,⟨o,es,ep,ho,r⟩,_⟩:=id I.loc
  obtain ⟨sl,hL⟩:=u.any ho I.free (by simp)
  exact I.step (g':=s.gens) (d':=s.drawn) (ch:=[]) (fun _ z=>nomatch z) (fun b o _ hb _ e n=>u.keep b o e n hb (by simp)) (fun b o _ hb _ e n=>u.slot b o e n hb (by simp)) (fun b o _ e n=>u.free b o e n (by simp)) (fun b o _ e=>u.there b o e (by simp)) u.tups u.frzs u.tbls (fun m' hm=>by
    obtain ⟨o',es',ep',ho',r'⟩:=hm
    rw [ho] at ho'; cases ho'
    exact ⟨_,es',ep',hL,r'⟩) hok I.bare
theorem Inv.call {g':Array GenState} {t':Nat} {d':Drawn} {ch:List Addr} (I:Inv X pins σ H s) (u:Un (frs X.stack) ch H H' s.heap h') (hok:HOk X.prog X.w H' h') (hg:AllBare g')
    (hch:∀ b ∈ ch,(b ∈ X.ex ∨ X.s₀.heap.objs.size ≤ b) ∧ b ≠ X.env.locals ∧ (∀ x c,X.env.cells.lookup x = some c → c ≠ b) ∧ ∀ p ∈ X.pn ++ pins,p.1 ≠ b) :
    Inv X pins σ H' { s with heap:=h',gens:=g',drawn:=d',toks:=t' }:=by
  obtain ⟨m,⟨o,es,ep,ho,r⟩,_⟩:=id I.loc
  obtain ⟨sl,hL⟩:=u.any ho I.free fun z=>(hch _ z).2.1 rfl
  exact I.step (ch:=ch) hch (fun b o hL hb hc e n=>u.keep b o e n (fun z=>(List.mem_cons.mp (I.stkSub b z)).elim hL hb) hc) (fun b o _ _ hc e n=>u.any e n hc) (fun b o hc e n=>u.free b o e n hc) (fun b o hc e=>u.there b o e hc) u.tups u.frzs u.tbls (fun m' hm=>by
    obtain ⟨o',es',ep',ho',r'⟩:=hm
    rw [ho] at ho'; cases ho'
    exact ⟨_,es',ep',hL,r'⟩) hok hg
theorem Inv.turned {t':Nat} {it:Addr} (I:Inv X pins σ H s) (k:∀ b o,b ≠ it → s.heap.get? b = some o → h'.get? b = some o) (hn:H it = none) (hL:it ≠ X.env.locals)
    (h1:it ∈ X.ex ∨ X.s₀.heap.objs.size ≤ it) (h2:∀ x c,X.env.cells.lookup x = some c → c ≠ it) (h3:∀ p ∈ X.pn ++ pins,p.1 ≠ it):Inv X pins σ H { s with heap:=h',toks:=t' }:=by
  have nit:∀ b u,H b = some u → b ≠ it:=fun b u e z=>by rw [z,hn] at e; cases e
  refine I.step (g':=s.gens) (d':=s.drawn) (ch:=[it]) (fun b hb=>?_) (fun b o _ _ hc e _=>k b o (fun z=>hc (by simp [z])) e) (fun b o _ _ hc e _=>⟨o.slots,k b o (fun z=>hc (by simp [z])) e⟩) (fun _ _ _ _ n=>n)
    (fun b o hc e=>⟨o,k b o (fun z=>hc (by simp [z])) e⟩) (fun _ _ e=>e) (fun _ _ _ e=>e) (fun b ps e=>⟨#[],by rw [e]; simp⟩) (fun m hm=>?_) (fun b u e=>?_) I.bare
  · have e:b = it:=by simpa using hb
    subst e
    exact ⟨h1,hL,h2,h3⟩
  · obtain ⟨o,es,ep,ho,r⟩:=hm
    exact ⟨o,es,ep,k _ o (Ne.symm hL) ho,r⟩
  · refine (I.hok b u e).stay (fun c v hc q=>k c v ?_ q) (fun _ q=>q) fun _ _ q=>q
    rcases hc with z | z
    · rw [z]; exact nit b u e
    · exact nit c _ z
theorem Inv.tok (I:Inv X pins σ H s) (t:Nat):Inv X pins σ H { s with toks:=t }:=I.un (h':=s.heap) (t':=t) Un.refl I.hok
theorem Inv.kept {t':Nat} (I:Inv X pins σ H s) (k:∀ b u,s.heap.get? b = some u → h'.get? b = some u):Inv X pins σ H { s with heap:=h',toks:=t' }:=I.un (Un.kept k) (I.hok.kept k)
theorem Inv.laid {a:Addr} {o:HO} {t':Nat} (I:Inv X pins σ H s) (k:∀ b u,s.heap.get? b = some u → h'.get? b = some u) (hp:s.heap.objs.size ≤ a) (new:ObjOk X.prog X.w (upd H a o) h' a o) :
    Inv X pins σ (upd H a o) { s with heap:=h',toks:=t' }:=I.un (Un.laid k hp (I.hok.fresh hp)) (I.hok.laid k hp new)
theorem Inv.write {x e:Addr} {o:HO} {t':Nat} (I:Inv X pins σ H s) (mu:Mut (H x)) (he:e = x ∨ H e = some (.own x)) (k:∀ b u,b ≠ e → s.heap.get? b = some u → h'.get? b = some u) (heo:∃ u,h'.get? e = some u)
    (new:ObjOk X.prog X.w (upd H x o) h' x o):Inv X pins σ (upd H x o) { s with heap:=h',toks:=t' }:=I.un (Un.write mu he k heo) (I.hok.write mu he k heo new)
theorem Inv.pins_of {pins':List (Addr × Obj)} (I:Inv X pins σ H s) (h:∀ p ∈ pins',s.heap.get? p.1 = some p.2 ∧ H p.1 = none ∧ p.1 ≠ X.env.locals ∧ p.1 ∉ X.fs ∧ ∀ v,p.2.data ≠ .cell v):Inv X pins' σ H s :=
  ⟨I.ok,I.os,I.bare,I.base,I.loc,I.cell,I.free,I.freeC,fun p hp=>(List.mem_append.mp hp).elim (fun z=>I.pin p (List.mem_append_left _ z)) (h p),I.hok,I.len⟩
theorem nodup_ix {N:List Str} (hN:N.Nodup) {i j:Nat} {x:Str} (a:N[i]? = some x) (b:N[j]? = some x):i = j:=by
  obtain ⟨h1,e1⟩:=List.getElem?_eq_some_iff.mp a
  obtain ⟨h2,e2⟩:=List.getElem?_eq_some_iff.mp b
  exact (List.getElem_inj hN).mp (e1.trans e2.symm)
theorem store_ok2 {M:Model} {A:Around} {E:Value → Shared → Prop} {i:Nat} {x:Str} {v:V} {u:Value} {Q:Unit → Shared → Prop} (I:Inv X pins σ H s) (hN:X.N.Nodup) (hi:X.N[i]? = some x) (hx:Loc X.env.scope x) (r:RelV v u)
    (h:∀ s',Inv X pins (σ.set i (some v)) H s' → (∃ a,Heap.SameBut a s.heap s'.heap ∧ (a = X.env.locals ∨ X.env.cells.lookup x = some a)) → Q () s') (hf:X.fn x = true ∨ X.env.scope.names.lookup x = some .local:=by first | exact .inl rfl | exact .inr rfl | assumption):wpAny M A (storeName X.env x u) Q E s:=by
  obtain ⟨m,hn,hl⟩:=id I.loc
  have hcls:(X.env.scope.kind == .class || (X.env.scope.kind == .module && X.env.locals != X.env.globals)) = false:=by rw [I.ok.kind]; rfl
  have hiσ:i < σ.length:=by rw [I.len]; exact (List.getElem?_eq_some_iff.mp hi).1
  have cne:=I.cne
  have tracked:∀ {a:Addr} {h':Heap},(∃ o,s.heap.get? a = some o ∧ H a = none) → Heap.SameBut a s.heap h' → HOk X.prog X.w H h':=fun {a h'} ha hs b ob e=>by
    obtain ⟨_,_,hfree⟩:=ha
    refine (I.hok b ob e).stay (fun c w' hc q=>(hs.2 c ?_).trans q) (fun _ q=>q) fun _ _ q=>q
    rintro rfl
    rcases hc with rfl | hc
    · rw [hfree] at e; cases e
    · rw [hfree] at hc; cases hc
  rcases hx with hk | hk
  · refine wpAny_storeName_local hk hn (fun h' hn' hs=>?_) hcls
    obtain ⟨oL,_,_,hoL,_⟩:=id hn
    refine h _ ⟨I.ok,I.os,I.bare,⟨fun b o e n hb hx=>?_,fun b o e n hb hx=>?_,I.base.free,fun b o e hx=>?_,I.base.tups,I.base.frzs,I.base.tbls⟩,⟨_,hn',fun j y v' e1 e2 e3=>?_⟩,fun y c e=>?_,I.free,I.freeC,fun p hp=>?_,tracked ⟨oL,hoL,I.free⟩ hs,by simpa using I.len⟩ ⟨_,hs,.inl rfl⟩
    · exact (hs.2 b (Nat.ne_of_lt (Nat.lt_of_lt_of_le (Heap.lt_size e) I.ok.above))).trans (I.base.keep b o e n hb hx)
    · obtain ⟨sl,e1⟩:=I.base.slot b o e n hb hx
      exact ⟨sl,(hs.2 b (Nat.ne_of_lt (Nat.lt_of_lt_of_le (Heap.lt_size e) I.ok.above))).trans e1⟩
    · obtain ⟨o',e1⟩:=I.base.there b o e hx
      exact ⟨o',(hs.2 b (Nat.ne_of_lt (Nat.lt_of_lt_of_le (Heap.lt_size e) I.ok.above))).trans e1⟩
    · by_cases hj:j = i
      · subst hj
        rw [hi] at e1; cases e1
        rw [List.getElem?_set_self hiσ] at e2
        cases e2
        exact ⟨u,r,.inl ⟨hk,by simp⟩⟩
      · rw [List.getElem?_set_ne (Ne.symm hj)] at e2
        obtain ⟨u',r',q⟩:=hl j y v' e1 e2 e3
        refine ⟨u',r',?_⟩
        rcases q with ⟨k,e⟩ | ⟨k,c,e,z⟩
        · refine .inl ⟨k,?_⟩
          have:y ≠ x:=fun e=>hj (nodup_ix hN e1 (e ▸ hi))
          simp [this,e]
        · exact .inr ⟨k,c,e,z.sameBut hs (cne y c e)⟩
    · obtain ⟨w',z⟩:=I.cell y c e
      exact ⟨w',z.sameBut hs (cne y c e)⟩
    · obtain ⟨e,n,ne,nf,d⟩:=I.pin p hp
      exact ⟨(hs.2 p.1 ne).trans e,n,ne,nf,d⟩
  · have hfn:X.fn x = true:=by
      rcases hf with z | z
      · exact z
      · rw [z] at hk; cases hk
    obtain ⟨c,hc⟩:=I.ok.has x (.inl hk)
    obtain ⟨w',z⟩:=I.cell x c hc
    refine wpAny_storeName_cell I.ok.kind hk hc z (fun h' hc' hs=>?_)
    obtain ⟨oc,hoc,hocd⟩:=id z
    refine h { s with heap:=h' } ⟨I.ok,I.os,I.bare,⟨fun b o e n hb hx=>?_,fun b o e n hb hx=>?_,I.base.free,fun b o e hx=>?_,I.base.tups,I.base.frzs,I.base.tbls⟩,⟨m,hn.sameBut hs (Ne.symm (cne x c hc)),fun j y v' e1 e2 e3=>?_⟩,fun y c' e=>?_,I.free,I.freeC,fun p hp=>?_,tracked ⟨oc,hoc,I.freeC x c hc⟩ hs,by simpa using I.len⟩ ⟨c,hs,.inr hc⟩
    · exact (hs.2 b (Nat.ne_of_lt (Nat.lt_of_lt_of_le (Heap.lt_size e) (I.ok.cab x c hfn hc)))).trans (I.base.keep b o e n hb hx)
    · obtain ⟨sl,e1⟩:=I.base.slot b o e n hb hx
      exact ⟨sl,(hs.2 b (Nat.ne_of_lt (Nat.lt_of_lt_of_le (Heap.lt_size e) (I.ok.cab x c hfn hc)))).trans e1⟩
    · obtain ⟨o',e1⟩:=I.base.there b o e hx
      exact ⟨o',(hs.2 b (Nat.ne_of_lt (Nat.lt_of_lt_of_le (Heap.lt_size e) (I.ok.cab x c hfn hc)))).trans e1⟩
    · by_cases hj:j = i
      · subst hj
        rw [hi] at e1; cases e1
        rw [List.getElem?_set_self hiσ] at e2
        cases e2
        exact ⟨u,r,.inr ⟨.inl hk,c,hc,hc'⟩⟩
      · rw [List.getElem?_set_ne (Ne.symm hj)] at e2
        obtain ⟨u',r',q⟩:=hl j y v' e1 e2 e3
        refine ⟨u',r',?_⟩
        rcases q with q | ⟨k,c',e,z'⟩
        · exact .inl q
        · refine .inr ⟨k,c',e,z'.sameBut hs ?_⟩
          rintro rfl
          exact hj (nodup_ix hN e1 (I.ok.inj _ _ _ e hc ▸ hi))
    · by_cases hcc:c' = c
      · subst hcc; exact ⟨_,hc'⟩
      · obtain ⟨w2,z2⟩:=I.cell y c' e
        exact ⟨w2,z2.sameBut hs hcc⟩
    · obtain ⟨e,n,ne,nf,d⟩:=I.pin p hp
      refine ⟨(hs.2 p.1 ?_).trans e,n,ne,nf,d⟩
      intro q
      rw [q,hoc] at e
      have q':oc = p.2:=Option.some.inj e
      exact d w' (by rw [← q']; exact hocd)
theorem store_ok {M:Model} {A:Around} {E:Value → Shared → Prop} {i:Nat} {x:Str} {v:V} {u:Value} {Q:Unit → Shared → Prop} (I:Inv X pins σ H s) (hN:X.N.Nodup) (hi:X.N[i]? = some x) (hx:Loc X.env.scope x) (r:RelV v u)
    (h:∀ s',Inv X pins (σ.set i (some v)) H s' → Q () s') (hf:X.fn x = true ∨ X.env.scope.names.lookup x = some .local:=by first | exact .inl rfl | exact .inr rfl | assumption):wpAny M A (storeName X.env x u) Q E s :=
  store_ok2 I hN hi hx r (fun s' I' _=>h s' I') hf
theorem Inv.call' {s':Shared} {ch:List Addr} (I:Inv X pins σ H s) (ho:s'.os = s.os) (u:Un (frs X.stack) ch H H' s.heap s'.heap) (hok:HOk X.prog X.w H' s'.heap) (hg:AllBare s'.gens)
    (hch:∀ b ∈ ch,(b ∈ X.ex ∨ X.s₀.heap.objs.size ≤ b) ∧ b ≠ X.env.locals ∧ (∀ x c,X.env.cells.lookup x = some c → c ≠ b) ∧ ∀ p ∈ X.pn ++ pins,p.1 ≠ b):Inv X pins σ H' s':=by
  obtain ⟨h',g',d',t',o'⟩:=s'
  have e:o' = s.os:=ho
  subst e
  exact I.call (g':=g') (t':=t') (d':=d') u hok hg hch
end
abbrev XK:=Value → Option Addr → Hp → Prop
abbrev St:=List (Option V)
abbrev VK:=V → Hp → Prop
abbrev TE:=St → Hp → VK → Prop
abbrev TT:=St → Hp → (Bool → Hp → Prop) → Prop
abbrev TA:=St → Hp → (List V → Hp → Prop) → Prop
structure Ends where
  nx:St → Hp → Prop
  rt:VK
  bk:St → Hp → Prop:=fun _ _=>False
  ct:St → Hp → Prop:=fun _ _=>False
abbrev TS:=Ends → St → Hp → Prop
def EP (X:Cx) (pins:List (Addr × Obj)) (σ:St) (Q:VK) (u:Value) (s':Shared):Prop:=∃ v H',Inv X pins σ H' s' ∧ RelV v u ∧ Q v H'
def TP (X:Cx) (pins:List (Addr × Obj)) (σ:St) (Q:Bool → Hp → Prop) (b:Bool) (s':Shared):Prop:=∃ H',Inv X pins σ H' s' ∧ Q b H'
def AP (X:Cx) (pins:List (Addr × Obj)) (σ:St) (Q:List V → Hp → Prop) (us:List Value) (s':Shared):Prop:=∃ vs H',Inv X pins σ H' s' ∧ Vals vs us ∧ Q vs H'
def SP (X:Cx) (pins:List (Addr × Obj)) (D:Ends) (f:Flow) (s':Shared):Prop :=
  match f with
  | .next=>∃ σ' H',Inv X pins σ' H' s' ∧ D.nx σ' H'
  | .brk=>∃ σ' H',Inv X pins σ' H' s' ∧ D.bk σ' H'
  | .cont=>∃ σ' H',Inv X pins σ' H' s' ∧ D.ct σ' H'
  | .ret u=>∃ v σ' H',Inv X pins σ' H' s' ∧ RelV v u ∧ D.rt v H'
def PE (X:Cx) (e:Expr) (t:TE):Prop :=
  ∀ (pins:List (Addr × Obj)) (s:Shared) (σ:St) (H:Hp) (Q:VK),Inv X pins σ H s → t σ H Q → wpAny (model X.prog X.w) X.A (eval e X.env) (EP X pins σ Q) X.xe s
def PT (X:Cx) (e:Expr) (t:TT):Prop :=
  ∀ (pins:List (Addr × Obj)) (s:Shared) (σ:St) (H:Hp) (Q:Bool → Hp → Prop),Inv X pins σ H s → t σ H Q → wpAny (model X.prog X.w) X.A (isTrue e X.env (eval e X.env)) (TP X pins σ Q) X.xe s
def PW (X:Cx) (e:Expr) (t:TT):Prop :=
  ∀ (whole:Sem Value) (pins:List (Addr × Obj)) (s:Shared) (σ:St) (H:Hp) (Q:Bool → Hp → Prop),Inv X pins σ H s → t σ H Q → wpAny (model X.prog X.w) X.A (isTrue e X.env whole) (TP X pins σ Q) X.xe s
theorem PW.pt {X:Cx} {e:Expr} {t:TT} (h:PW X e t):PT X e t:=h _
def PA (X:Cx) (es:List Expr) (t:TA):Prop :=
  ∀ (pos:Pos) (pins:List (Addr × Obj)) (s:Shared) (σ:St) (H:Hp) (Q:List V → Hp → Prop),Inv X pins σ H s → t σ H Q → wpAny (model X.prog X.w) X.A (spliced (backTo pos (starEach es X.env))) (AP X pins σ Q) X.xe s
def PS (X:Cx) (st:Stmt) (t:TS):Prop :=
  ∀ (pins:List (Addr × Obj)) (s:Shared) (σ:St) (H:Hp) (D:Ends),Inv X pins σ H s → t D σ H → wpAny (model X.prog X.w) X.A (exec st X.env) (SP X pins D) X.xe s
def PSs (X:Cx) (st:List Stmt) (t:TS):Prop :=
  ∀ (pins:List (Addr × Obj)) (s:Shared) (σ:St) (H:Hp) (D:Ends),Inv X pins σ H s → t D σ H → wpAny (model X.prog X.w) X.A (execs st X.env) (SP X pins D) X.xe s
theorem thn {α:Type} {t:Sem α} {Q Q':α → Shared → Prop} {M:Model} {A:Around} {E:Value → Shared → Prop} {s:Shared} (h:wpAny M A t Q E s) (hQ:∀ a s,Q a s → Q' a s):wpAny M A t Q' E s:=wpAny_mono h hQ fun _ _ x=>x
end L2
namespace L2
open PySem PySem.Spec PyProof.Rows
section
variable {X:Cx}
def tVar (i:Nat):TE:=fun σ H Q=>∃ v,σ[i]? = some (some v) ∧ Q v H
def tC (v:V):TE:=fun _ H Q=>Q v H
theorem pe_var {i:Nat} {x:Str} {pos:Pos} (hN:X.N[i]? = some x) (hv:Vis X.env.scope x) (hd:(x == ("__debug__":Str)) = false:=by decide) (hcd:(x == ("__classdict__":Str)) = false:=by decide):PE X (.Name x pos) (tVar i):=by
  intro pins s σ H Q I h
  obtain ⟨v,e,h⟩:=h
  obtain ⟨m,hn,hl⟩:=I.loc
  obtain ⟨u,r,l⟩:=hl i x v hN e hv
  have fin:EP X pins σ Q u s:=⟨v,H,I,r,h⟩
  rcases l with ⟨hk,hm⟩ | ⟨hk,c,hc,hcell⟩
  · exact wpAny_Name (wpAny_loadName_local I.ok.kind hk hn hm fin) hd
  · rcases hk with hk | hk
    · exact wpAny_Name (wpAny_loadName_cell I.ok.kind hk hc hcell fin) hd
    · exact wpAny_Name (wpAny_loadName_free I.ok.kind hk hc hcell fin hcd) hd
theorem pe_int {i j pos}:PE X (.Constant (.int i) j pos) (tC (.int i)):=fun _ _ _ H _ I h=>wpAny_Constant_int ⟨.int i,H,I.tok _,⟨_,rfl⟩,h⟩
theorem pe_bl {b j pos}:PE X (.Constant (.bool b) j pos) (tC (.bl b)):=fun _ _ _ H _ I h=>Constant_bool ⟨.bl b,H,I,rfl,h⟩
theorem pe_str {x j pos}:PE X (.Constant (.str x) j pos) (tC (.str x)):=fun _ _ _ H _ I h=>Calls.Constant_str ⟨.str x,H,I.tok _,⟨_,rfl⟩,h⟩
def Gl (X:Cx) (x:Str):Prop:=X.env.kindOf x = some .globalImplicit
theorem ld_glob {E:Value → Shared → Prop} {pins:List (Addr × Obj)} {s:Shared} {σ:St} {H:Hp} {x:Str} {u:Value} {pos:Pos} {Q:Value → Shared → Prop} (I:Inv X pins σ H s) (hg:Gl X x) (hm:X.mg x = some u) (h:Q u s)
    (hd:(x == ("__debug__":Str)) = false:=by decide):wpAny (model X.prog X.w) X.A (eval (.Name x pos) X.env) Q E s :=
  Calls.Name_function_global I.ok.kind hg (Calls.loadGlobal_global (by rw [I.ok.glob]; exact I.mod.glob.keeps I.bk) hm h) hd
theorem ld_blt {E:Value → Shared → Prop} {pins:List (Addr × Obj)} {s:Shared} {σ:St} {H:Hp} {x:Str} {u:Value} {pos:Pos} {Q:Value → Shared → Prop} (I:Inv X pins σ H s) (hg:Gl X x) (hm:X.mg x = none) (hv:bootBuiltins x = some u) (h:Q u s)
    (hn:x ≠ "__name__":=by decide) (hd:(x == ("__debug__":Str)) = false:=by decide):wpAny (model X.prog X.w) X.A (eval (.Name x pos) X.env) Q E s:=by
  obtain ⟨mb,h1,h2⟩:=I.mod.blt
  exact Calls.Name_function_global I.ok.kind hg (Calls.loadGlobal_builtin (by rw [I.ok.glob]; exact I.mod.glob.keeps I.bk) hm (by rw [I.ok.blt]; exact h1.keeps I.bk) ((h2 x hn).trans hv) h) hd
theorem pe_glob {x:Str} {v:V} {u:Value} {pos:Pos} (hg:Gl X x) (hm:X.mg x = some u) (r:RelV v u) (hd:(x == ("__debug__":Str)) = false:=by decide):PE X (.Name x pos) (tC v) :=
  fun _ _ _ H _ I h=>ld_glob I hg hm ⟨v,H,I,r,h⟩ hd
theorem pe_bltn {x:Str} {v:V} {u:Value} {pos:Pos} (hg:Gl X x) (hm:X.mg x = none) (hv:bootBuiltins x = some u) (r:RelV v u) (hn:x ≠ "__name__":=by decide) (hd:(x == ("__debug__":Str)) = false:=by decide):PE X (.Name x pos) (tC v) :=
  fun _ _ _ H _ I h=>ld_blt I hg hm hv ⟨v,H,I,r,h⟩ hn hd
def t2I (ta tb:TE) (k:Int → Int → Hp → Prop):St → Hp → Prop:=fun σ H=>ta σ H fun x H1=>tb σ H1 fun y H2=>∃ i j,x = .int i ∧ y = .int j ∧ k i j H2
variable {a b:Expr} {ta tb:TE} {pos:Pos}
def PC (X:Cx) (op:CmpOp) (a b:Expr) (t:TE):Prop :=
  ∀ (pins:List (Addr × Obj)) (s:Shared) (σ:St) (H:Hp) (Q:VK),Inv X pins σ H s → t σ H Q →
    wpAny (model X.prog X.w) X.A (eval a X.env) (fun v s₁=>wpAny (model X.prog X.w) X.A (eval b X.env) (fun u s₂=>wpAny (model X.prog X.w) X.A (compareOp op v u) (EP X pins σ Q) X.xe s₂) X.xe s₁) X.xe s
theorem nobehind (b:Expr) {op:CmpOp} (h:op ≠ .In) (h2:op ≠ .NotIn):behindInMarks op b = false:=by
  have e1:(op == CmpOp.In) = false:=by cases op <;> first | rfl | exact absurd rfl h
  have e2:(op == CmpOp.NotIn) = false:=by cases op <;> first | rfl | exact absurd rfl h2
  cases b <;> simp [behindInMarks,e1,e2]
def tCmp (p:Int → Int → Bool) (ta tb:TE):TE:=fun σ H Q=>t2I ta tb (fun i j H2=>Q (.bl (p i j)) H2) σ H
abbrev tLt:TE → TE → TE:=tCmp fun i j=>decide (i < j)
abbrev tLe:TE → TE → TE:=tCmp fun i j=>decide (i ≤ j)
abbrev tGt:TE → TE → TE:=tCmp fun i j=>decide (j < i)
abbrev tGe:TE → TE → TE:=tCmp fun i j=>decide (j ≤ i)
abbrev tEqI:TE → TE → TE:=tCmp fun i j=>decide (i = j)
abbrev tNeI:TE → TE → TE:=tCmp fun i j=>!decide (i = j)
def tB (t:TE):TT:=fun σ H Q=>t σ H fun x H1=>∃ c,x = .bl c ∧ Q c H1
theorem pt_cmp {op:CmpOp} {t:TE} (h:PC X op a b t) (h1:behindInMarks op b = false:=by first | exact nobehind _ (by decide) (by decide) | rfl):PT X (.Compare a [op] [b] pos) (tB t):=by
  intro pins s σ H Q I hw
  refine wpAny_isTrue_Compare1 (thn (h pins s σ H _ I hw) fun v s1 h1=>thn h1 fun u s2 h2=>thn h2 fun c s3 ⟨x,H1,I1,r1,q1⟩=>?_) h1
  obtain ⟨d,rfl,q⟩:=q1
  cases r1
  exact wpAny_truthy_bool ⟨H1,I1,q⟩
theorem pt_val {e:Expr} {t:TE} (h:PE X e t) (he:∀ whole,isTrue e X.env whole = (do let v ← whole; standAt e.pos; holding [v] (truthy v)):=by intro _; rfl):PT X e (tB t):=by
  intro pins s σ H Q I hw
  refine isTrue_plain (thn (h pins s σ H _ I hw) fun v s1 ⟨x,H1,I1,r1,q1⟩=>?_) (he _)
  obtain ⟨d,rfl,q⟩:=q1
  cases r1
  exact wpAny_truthy_bool ⟨H1,I1,q⟩
variable {tA tB':TT} {rest:List Expr}
def tAnd (t u:TT):TT:=fun σ H Q=>t σ H fun c H1=>if c = true then u σ H1 Q else Q false H1
def tOr (t u:TT):TT:=fun σ H Q=>t σ H fun c H1=>if c = true then Q true H1 else u σ H1 Q
def tNot (t:TT):TT:=fun σ H Q=>t σ H fun c H1=>Q (!c) H1
theorem pw_and1 (ha:PT X a tA):PW X (.BoolOp .And [a] pos) tA:=by
  intro wh pins s σ H Q I h
  refine isTrue_and (thn (ha pins s σ H Q I h) fun c s1 e=>?_)
  cases c with
  | true=>exact isTrue_and_nil e
  | false=>exact e
theorem pw_or1 (ha:PT X a tA):PW X (.BoolOp .Or [a] pos) tA:=by
  intro wh pins s σ H Q I h
  refine isTrue_or (thn (ha pins s σ H Q I h) fun c s1 e=>?_)
  cases c with
  | false=>exact isTrue_or_nil e
  | true=>exact e
theorem pw_and (ha:PT X a tA) (hb:PW X (.BoolOp .And (b :: rest) pos) tB'):PW X (.BoolOp .And (a :: b :: rest) pos) (tAnd tA tB'):=by
  intro wh pins s σ H Q I h
  refine isTrue_and (thn (ha pins s σ H _ I h) fun c s1 ⟨H1,I1,q1⟩=>?_)
  cases c with
  | true=>exact hb wh pins s1 σ H1 Q I1 q1
  | false=>exact ⟨H1,I1,q1⟩
theorem pw_or (ha:PT X a tA) (hb:PW X (.BoolOp .Or (b :: rest) pos) tB'):PW X (.BoolOp .Or (a :: b :: rest) pos) (tOr tA tB'):=by
  intro wh pins s σ H Q I h
  refine isTrue_or (thn (ha pins s σ H _ I h) fun c s1 ⟨H1,I1,q1⟩=>?_)
  cases c with
  | true=>exact ⟨H1,I1,q1⟩
  | false=>exact hb wh pins s1 σ H1 Q I1 q1
theorem pt_not (ha:PT X a tA):PT X (.UnaryOp .Not a pos) (tNot tA):=by
  intro pins s σ H Q I h
  exact isTrue_not (ha pins s σ H (fun c H1=>Q (!c) H1) I h)
def tAndV (ta tb:TE):TE:=fun σ H Q=>ta σ H fun x H1=>∃ c,x = .bl c ∧ if c = true then tb σ H1 Q else Q (.bl false) H1
def tOrV (ta tb:TE):TE:=fun σ H Q=>ta σ H fun x H1=>∃ c,x = .bl c ∧ if c = true then Q (.bl true) H1 else tb σ H1 Q
def tNotV (ta:TE):TE:=fun σ H Q=>ta σ H fun x H1=>∃ c,x = .bl c ∧ Q (.bl (!c)) H1
theorem pe_one {op} {t:TE} (h:PE X a t):PE X (.BoolOp op [a] pos) t:=fun pins s σ H Q I hw=>BoolOp_one (h pins s σ H Q I hw)
theorem pe_and (ha:PE X a ta) (hb:PE X (.BoolOp .And (b :: rest) pos) tb):PE X (.BoolOp .And (a :: b :: rest) pos) (tAndV ta tb):=by
  intro pins s σ H Q I h
  refine BoolOp_and (thn (ha pins s σ H _ I h) fun v s1 ⟨x,H1,I1,r1,q1⟩=>?_)
  obtain ⟨c,rfl,q1⟩:=q1
  cases r1
  refine wpAny_truthy_bool ?_
  cases c with
  | true=>exact hb pins s1 σ H1 Q I1 q1
  | false=>exact ⟨.bl false,H1,I1,rfl,q1⟩
theorem pe_or (ha:PE X a ta) (hb:PE X (.BoolOp .Or (b :: rest) pos) tb):PE X (.BoolOp .Or (a :: b :: rest) pos) (tOrV ta tb):=by
  intro pins s σ H Q I h
  refine BoolOp_or (thn (ha pins s σ H _ I h) fun v s1 ⟨x,H1,I1,r1,q1⟩=>?_)
  obtain ⟨c,rfl,q1⟩:=q1
  cases r1
  refine wpAny_truthy_bool ?_
  cases c with
  | false=>exact hb pins s1 σ H1 Q I1 q1
  | true=>exact ⟨.bl true,H1,I1,rfl,q1⟩
theorem pe_not (ha:PE X a ta):PE X (.UnaryOp .Not a pos) (tNotV ta):=by
  intro pins s σ H Q I h
  refine UnaryOp_ (thn (ha pins s σ H _ I h) fun v s1 ⟨x,H1,I1,r1,q1⟩=>?_)
  obtain ⟨c,rfl,q1⟩:=q1
  cases r1
  exact not_of (wpAny_truthy_bool ⟨.bl (!c),H1,I1,rfl,q1⟩)
def tIf (t:TT) (ta tb:TE):TE:=fun σ H Q=>t σ H fun c H1=>if c = true then ta σ H1 Q else tb σ H1 Q
theorem pe_ifExp {c:Expr} (hc:PT X c tA) (ha:PE X a ta) (hb:PE X b tb):PE X (.IfExp c a b pos) (tIf tA ta tb):=by
  intro pins s σ H Q I h
  refine wpAny_IfExp (thn (hc pins s σ H _ I h) fun d s1 ⟨H1,I1,q1⟩=>?_)
  cases d with
  | true=>exact ha pins s1 σ H1 Q I1 q1
  | false=>exact hb pins s1 σ H1 Q I1 q1
end
end L2
namespace L2
open PySem PySem.Spec PyProof.Rows
def SqL (K:PySem.W.Frag) (H:Hp) (a:Addr) (xs:List V):Prop :=
  Rd H a (.lst xs) ∨
    ∃ (o:Obj) (its:Array Value) (n:Nat),K.lookup a = some o ∧ o.cls = .type "list" ∧ o.dict = none ∧ o.data = .seq its n ∧ its.size ≤ sizeLine ∧ Vals xs its.toList
def SqT (K:PySem.W.Frag) (H:Hp) (a:Addr) (xs:List V):Prop :=
  Rd H a (.tup xs) ∨
    ∃ (o:Obj) (its:Array Value) (n:Nat),K.lookup a = some o ∧ o.cls = .type "tuple" ∧ o.data = .seq its n ∧ its.size ≤ sizeLine ∧ Vals xs its.toList
def absV:Value → Option V
  | .none=>some .non
  | .bool b=>some (.bl b)
  | .int i _=>some (.int i)
  | .str x _=>some (.str x)
  | .bytes b _=>some (.byt b)
  | .float b _=>some (.flt b)
  | .ref a=>some (.ref a)
  | .type n=>some (.ty n)
  | _=>none
theorem RelV.abs {x:V} {u:Value} (r:RelV x u):absV u = some x:=by
  cases x with
  | non=>cases r; rfl
  | bl _=>cases r; rfl
  | int _=>obtain ⟨t,rfl⟩:=r; rfl
  | str _=>obtain ⟨t,rfl⟩:=r; rfl
  | byt _=>obtain ⟨t,rfl⟩:=r; rfl
  | flt _=>obtain ⟨t,rfl⟩:=r; rfl
  | ref _=>cases r; rfl
  | ty _=>cases r; rfl
theorem RelV.inj {x y:V} {u:Value} (r:RelV x u) (q:RelV y u):x = y:=Option.some.inj (r.abs.symm.trans q.abs)
theorem Vals.inj:∀ {xs ys:List V} {us:List Value},Vals xs us → Vals ys us → xs = ys
  | _,_,_,.nil,.nil=>rfl
  | _,_,_,.cons r t,.cons r' t'=>by rw [r.inj r',Vals.inj t t']
section
variable {X:Cx} {pins:List (Addr × Obj)} {σ:St} {H:Hp} {s:Shared} {a:Addr} {xs ys:List V}
theorem SqL.of {K:PySem.W.Frag} (h:H a = some (.lst xs)):SqL K H a xs:=.inl (.inl h)
theorem SqT.of {K:PySem.W.Frag} (h:H a = some (.tup xs)):SqT K H a xs:=.inl (.inl h)
theorem Inv.list (I:Inv X pins σ H s) (h:SqL X.K H a xs):∃ its:List Value,Vals xs its ∧ PlainL s.heap a its.toArray ∧ xs.length ≤ sizeLine:=by
  rcases h with h | ⟨o,its,n,hk,hc,hd,hs,hz,r⟩
  · obtain ⟨z,its,n,r,e⟩:=h.ok I.hok
    exact ⟨its,r,⟨_,n,e,rfl,rfl,rfl⟩,z⟩
  · refine ⟨its.toList,r,⟨o,n,I.kIn a o hk,hc,hd,by simpa using hs⟩,?_⟩
    have e:=r.length
    simp only [Array.length_toList] at e
    omega
theorem Inv.tuple (I:Inv X pins σ H s) (h:SqT X.K H a xs):∃ its:List Value,Vals xs its ∧ IsTup s.heap a its.toArray ∧ xs.length ≤ sizeLine:=by
  rcases h with h | ⟨o,its,n,hk,hc,hs,hz,r⟩
  · obtain ⟨z,its,r,p⟩:=h.ok I.hok
    exact ⟨its,r,p,z⟩
  · refine ⟨its.toList,r,⟨o,I.kIn a o hk,hc,n,by simpa using hs⟩,?_⟩
    have e:=r.length
    simp only [Array.length_toList] at e
    omega
theorem Inv.list_inj (I:Inv X pins σ H s) (h:SqL X.K H a xs) (h':SqL X.K H a ys):xs = ys:=by
  obtain ⟨its,r,⟨o,n,e,_,_,d⟩,_⟩:=I.list h
  obtain ⟨its',r',⟨o',n',e',_,_,d'⟩,_⟩:=I.list h'
  rw [e] at e'; cases e'
  rw [d] at d'
  injection d' with d1 _
  have:its = its':=by simpa using congrArg Array.toList d1
  subst this
  exact r.inj r'
theorem Inv.tuple_inj (I:Inv X pins σ H s) (h:SqT X.K H a xs) (h':SqT X.K H a ys):xs = ys:=by
  obtain ⟨its,r,⟨o,e,_,n,d⟩,_⟩:=I.tuple h
  obtain ⟨its',r',⟨o',e',_,n',d'⟩,_⟩:=I.tuple h'
  rw [e] at e'; cases e'
  rw [d] at d'
  injection d' with d1 _
  have:its = its':=by simpa using congrArg Array.toList d1
  subst this
  exact r.inj r'
end
abbrev Cx.wish (X:Cx) (E:Value → Shared → Prop):Cx:={ X with xe:=E }
abbrev Cx.nox (X:Cx):Cx:=X.wish fun _ _=>False
theorem Cx.Ok.wish {X:Cx} (ok:X.Ok) (E:Value → Shared → Prop):(X.wish E).Ok :=
  ⟨ok.mod,ok.kind,ok.glob,ok.blt,ok.above,ok.inj,ok.has,ok.cab,ok.hd,ok.frames,ok.stk,ok.exf,ok.bs,ok.bsz,ok.noex,ok.exfs,ok.funs,ok.frf⟩
theorem Cx.Ok.unwish {X:Cx} {E:Value → Shared → Prop} (ok:(X.wish E).Ok):X.Ok :=
  ⟨ok.mod,ok.kind,ok.glob,ok.blt,ok.above,ok.inj,ok.has,ok.cab,ok.hd,ok.frames,ok.stk,ok.exf,ok.bs,ok.bsz,ok.noex,ok.exfs,ok.funs,ok.frf⟩
section
variable {X:Cx} {pins:List (Addr × Obj)} {σ:St} {H:Hp} {s:Shared} {E:Value → Shared → Prop}
theorem Inv.wish (I:Inv X pins σ H s) (E:Value → Shared → Prop):Inv (X.wish E) pins σ H s:=⟨I.ok.wish E,I.os,I.bare,I.base,I.loc,I.cell,I.free,I.freeC,I.pin,I.hok,I.len⟩
theorem Inv.unwish (I:Inv (X.wish E) pins σ H s):Inv X pins σ H s:=⟨I.ok.unwish,I.os,I.bare,I.base,I.loc,I.cell,I.free,I.freeC,I.pin,I.hok,I.len⟩
theorem SP.unwish {D:Ends} {f:Flow} {s':Shared} (h:SP (X.wish E) pins D f s'):SP X pins D f s':=by
  cases f with
  | next=>obtain ⟨σ',H',I,q⟩:=h; exact ⟨σ',H',I.unwish,q⟩
  | brk=>obtain ⟨σ',H',I,q⟩:=h; exact ⟨σ',H',I.unwish,q⟩
  | cont=>obtain ⟨σ',H',I,q⟩:=h; exact ⟨σ',H',I.unwish,q⟩
  | ret u=>obtain ⟨v,σ',H',I,r,q⟩:=h; exact ⟨v,σ',H',I.unwish,r,q⟩
theorem PE.nox {e:Expr} {t:TE} (h:PE X.nox e t):PE X e t:=fun pins s σ H Q I hw =>
  wpAny_mono (h pins s σ H Q (I.wish _) hw) (fun _ _ ⟨v,H',I',r,q⟩=>⟨v,H',I'.unwish,r,q⟩) fun _ _ z=>False.elim z
theorem PT.nox {e:Expr} {t:TT} (h:PT X.nox e t):PT X e t:=fun pins s σ H Q I hw =>
  wpAny_mono (h pins s σ H Q (I.wish _) hw) (fun _ _ ⟨H',I',q⟩=>⟨H',I'.unwish,q⟩) fun _ _ z=>False.elim z
theorem PSs.nox {st:List Stmt} {t:TS} (h:PSs X.nox st t):PSs X st t:=fun pins s σ H D I hw =>
  wpAny_mono (h pins s σ H D (I.wish _) hw) (fun _ _ q=>q.unwish) fun _ _ z=>False.elim z
end
section
variable {X:Cx} {st:Stmt} {rest:List Stmt} {t u:TS} {e:Expr} {te:TE} {pos:Pos}
def tNext:TS:=fun D σ H=>D.nx σ H
def tSeq (t u:TS):TS:=fun D σ H=>t { D with nx:=u D } σ H
theorem pss_nil:PSs X [] tNext:=fun _ _ σ H _ I h=>wpAny_execs_nil ⟨σ,H,I,h⟩
theorem pss_cons (h1:PS X st t) (h2:PSs X rest u):PSs X (st :: rest) (tSeq t u):=by
  intro pins s σ H D I h
  refine wpAny_execs_cons (thn (h1 pins s σ H { D with nx:=u D } I h) fun f s1 q=>?_)
  cases f with
  | next =>
    obtain ⟨σ',H',I',q⟩:=q
    exact h2 pins s1 σ' H' D I' q
  | ret v=>exact q
  | brk=>exact q
  | cont=>exact q
theorem pss_one (h1:PS X st t):PSs X [st] t:=by
  intro pins s σ H D I h
  refine wpAny_execs_cons (thn (h1 pins s σ H D I h) fun f s1 q=>?_)
  cases f with
  | next=>exact wpAny_execs_nil q
  | ret v=>exact q
  | brk=>exact q
  | cont=>exact q
theorem Inv.quiet {pins:List (Addr × Obj)} {σ:St} {H:Hp} {s:Shared} (I:Inv X pins σ H s):interactive X.env = false:=by simp [interactive,I.ok.kind]
def tDrop (te:TE):TS:=fun D σ H=>te σ H fun _ H1=>D.nx σ H1
theorem ps_expr (he:PE X e te) (hs:swapsWith e none pos.line X.env = pure false:=by rfl):PS X (.Expr e pos) (tDrop te):=by
  intro pins s σ H D I h
  exact wpAny_Expr_any (thn (he pins s σ H _ I h) fun v s1 ⟨x,H1,I1,r1,q1⟩=>⟨σ,H1,I1,q1⟩) I.quiet hs
def tRet (te:TE):TS:=fun D σ H=>te σ H D.rt
theorem ps_ret (he:PE X e te):PS X (.Return (some e) pos) (tRet te):=by
  intro pins s σ H D I h
  exact wpAny_Return_some (thn (he pins s σ H _ I h) fun v s1 ⟨x,H1,I1,r1,q1⟩=>⟨x,σ,H1,I1,r1,q1⟩)
def tRetN:TS:=fun D _ H=>D.rt .non H
def tIfS (c:TT) (t u:TS):TS:=fun D σ H=>c σ H fun b H1=>if b = true then t D σ H1 else u D σ H1
theorem ps_if {c:Expr} {a b:List Stmt} {tc:TT} (hc:PT X c tc) (ha:PSs X a t) (hb:PSs X b u):PS X (.If c a b pos) (tIfS tc t u):=by
  intro pins s σ H D I h
  refine wpAny_If (thn (hc pins s σ H _ I h) fun d s1 ⟨H1,I1,q1⟩=>?_)
  cases d with
  | true=>exact ha pins s1 σ H1 D I1 q1
  | false=>exact hb pins s1 σ H1 D I1 q1
def tNever:TS:=fun _ _ _=>False
end
abbrev TG:=V → St → Hp → (St → Hp → Prop) → Prop
abbrev TGs:=List V → St → Hp → (St → Hp → Prop) → Prop
def PG (X:Cx) (target:Expr) (t:TG):Prop :=
  ∀ (pins:List (Addr × Obj)) (s:Shared) (σ:St) (H:Hp) (v:V) (u:Value) (Q:St → Hp → Prop),Inv X pins σ H s → RelV v u → t v σ H Q →
    wpAny (model X.prog X.w) X.A (assign target X.env u) (fun _ s'=>∃ σ' H',Inv X pins σ' H' s' ∧ Q σ' H') X.xe s
def PGs (X:Cx) (ts:List Expr) (t:TGs):Prop :=
  ∀ (pins:List (Addr × Obj)) (s:Shared) (σ:St) (H:Hp) (vs:List V) (us:List Value) (Q:St → Hp → Prop),Inv X pins σ H s → Vals vs us → t vs σ H Q →
    wpAny (model X.prog X.w) X.A (assignInOrder ((assignEach ts X.env).map (·.2)) us) (fun _ s'=>∃ σ' H',Inv X pins σ' H' s' ∧ Q σ' H') X.xe s
abbrev TSet:=V → V → V → Hp → (Hp → Prop) → Prop
abbrev TIp:=V → V → Hp → VK → Prop
def PIp (X:Cx) (op:Operator) (t:TIp):Prop :=
  ∀ (pins:List (Addr × Obj)) (s:Shared) (σ:St) (H:Hp) (x y:V) (v u:Value) (Q:VK),Inv X pins σ H s → RelV x v → RelV y u → t x y H Q →
    wpAny (model X.prog X.w) X.A (inplaceOp op v u) (EP X pins σ Q) X.xe s
section
variable {X:Cx} {pos:Pos}
def gName (i:Nat):TG:=fun v σ H Q=>Q (σ.set i (some v)) H
theorem pg_name {i:Nat} {x:Str} (hN:X.N.Nodup) (hi:X.N[i]? = some x) (hx:Loc X.env.scope x) (hf:X.fn x = true ∨ X.env.scope.names.lookup x = some .local:=by first | exact .inl rfl | exact .inr rfl | assumption):PG X (.Name x pos) (gName i):=by
  intro pins s σ H v u Q I r h
  exact wpAny_assign_Name (store_ok I hN hi hx r (fun s' I'=>⟨_,H,I',h⟩) hf)
def gNil:TGs:=fun vs σ H Q=>vs = [] ∧ Q σ H
def gCons (t:TG) (u:TGs):TGs:=fun vs σ H Q=>∃ v r,vs = v :: r ∧ t v σ H fun σ' H'=>u r σ' H' Q
theorem pgs_nil:PGs X [] gNil:=by
  intro pins s σ H vs us Q I r h
  obtain ⟨e,h⟩:=h
  subst e
  cases r
  exact assignInOrder_nil ⟨σ,H,I,h⟩
theorem pgs_cons {e:Expr} {es:List Expr} {t:TG} {u:TGs} (h1:PG X e t) (h2:PGs X es u)
    (hs:(assignEach (e :: es) X.env).map (·.2) = assign e X.env :: (assignEach es X.env).map (·.2):=by rfl):PGs X (e :: es) (gCons t u):=by
  intro pins s σ H vs us Q I r h
  obtain ⟨v,vr,e1,h⟩:=h
  subst e1
  cases r with
  | cons r rr =>
    rw [hs]
    refine assignInOrder_cons (thn (h1 pins s σ H _ _ _ I r h) fun _ s1 ⟨σ1,H1,I1,q1⟩=>?_)
    exact h2 pins s1 σ1 H1 _ _ Q I1 rr q1
def gTup (K:PySem.W.Frag) (n:Nat) (t:TGs):TG:=fun v σ H Q=>∃ a xs,v = .ref a ∧ SqT K H a xs ∧ xs.length = n ∧ t xs σ H Q
theorem pg_tup {es:List Expr} {k:Nat} {t:TGs} {n:Nat} (hc:X.calm = true) (h:PGs X es t)
    (hn:(assignEach es X.env).length = n:=by rfl) (hst:(assignEach es X.env).findIdx? (·.1) = none:=by rfl):PG X (.Tuple es k pos) (gTup X.K n t):=by
  intro pins s σ H v u Q I r hw
  obtain ⟨a,xs,e1,hq,hl,hw⟩:=hw
  subst e1
  cases r
  obtain ⟨its,rv,ht,hz⟩:=I.tuple hq
  refine assign_Tuple_tuple (I.ok.hd hc) ht (by simp [hn,← hl,rv.length]) hst fun h' hx=>?_
  have I1:Inv X pins σ H { s with heap:=h' }:=I.kept (t':=s.toks) fun b o e=>hx b o (Nat.ne_of_lt (Heap.lt_size e)) e
  exact h pins _ σ H xs _ Q I1 (by simpa using rv) hw
def gSub (to ti:TE) (t:TSet):TG:=fun v σ H Q=>to σ H fun o H1=>ti σ H1 fun i H2=>t o i v H2 fun H3=>Q σ H3
def tAsg (te:TE) (g:TG):TS:=fun D σ H=>te σ H fun x H1=>g x σ H1 D.nx
theorem ps_set {i:Nat} {x:Str} {e:Expr} {te:TE} {pos':Pos} (hN:X.N.Nodup) (hi:X.N[i]? = some x) (hx:Loc X.env.scope x) (he:PE X e te) (hs:swapsWith e (some (.Name x pos')) pos.line X.env = pure false:=by rfl) (hf:X.fn x = true ∨ X.env.scope.names.lookup x = some .local:=by first | exact .inl rfl | exact .inr rfl | assumption) :
    PS X (.Assign [.Name x pos'] e pos) (tAsg te (gName i)):=by
  intro pins s σ H D I h
  refine wpAny_Assign_Name (thn (he pins s σ H _ I h) fun v s1 ⟨y,H1,I1,r1,q1⟩=>?_) hs
  exact store_ok I1 hN hi hx r1 (fun s2 I2=>⟨_,H1,I2,q1⟩) hf
def tAug (i:Nat) (te:TE) (ti:TIp):TS:=fun D σ H=>∃ x,σ[i]? = some (some x) ∧ te σ H fun y H1=>ti x y H1 fun z H2=>D.nx (σ.set i (some z)) H2
theorem ps_aug {i:Nat} {x:Str} {e:Expr} {te:TE} {op:Operator} {ti:TIp} {pos':Pos} (hN:X.N.Nodup) (hi:X.N[i]? = some x) (hx:Loc X.env.scope x) (he:PE X e te) (ho:PIp X op ti) (hf:X.fn x = true ∨ X.env.scope.names.lookup x = some .local:=by first | exact .inl rfl | exact .inr rfl | assumption) :
    PS X (.AugAssign (.Name x pos') op e pos) (tAug i te ti):=by
  intro pins s σ H D I h
  obtain ⟨v,e1,h⟩:=h
  obtain ⟨m,hn,hl⟩:=I.loc
  have vis:Vis X.env.scope x:=by rcases hx with k | k; exact .inl k; exact .inr (.inl k)
  obtain ⟨u,r,l⟩:=hl i x v hi e1 vis
  refine wpAny_AugAssign_Name ?_
  have go:wpAny (model X.prog X.w) X.A (eval e X.env) (fun w s₂=>wpAny (model X.prog X.w) X.A (inplaceOp op u w) (fun r s₃=>wpAny (model X.prog X.w) X.A (storeName X.env x r) (fun _=>SP X pins D .next) X.xe s₃) X.xe s₂) X.xe s:=by
    refine thn (he pins s σ H _ I h) fun w s1 ⟨y,H1,I1,r1,q1⟩=>?_
    refine thn (ho pins s1 σ H1 v y u w _ I1 r r1 q1) fun z s2 ⟨zv,H2,I2,r2,q2⟩=>?_
    exact store_ok I2 hN hi hx r2 (fun s3 I3=>⟨_,H2,I3,q2⟩) hf
  rcases l with ⟨hk,hm⟩ | ⟨hk,c,hc,hcell⟩
  · exact wpAny_loadName_local I.ok.kind hk hn hm go
  · rcases hk with hk | hk
    · exact wpAny_loadName_cell I.ok.kind hk hc hcell go
    · rcases hx with k | k
      · have:X.env.scope.names.lookup x = some .free:=hk
        rw [k] at this; cases this
      · have:X.env.scope.names.lookup x = some .free:=hk
        rw [k] at this; cases this
def ipI (f:Int → Int → Int):TIp:=fun x y H Q=>∃ i j,x = .int i ∧ y = .int j ∧ Q (.int (f i j)) H
theorem ip_add:PIp X .Add (ipI fun i j=>i + j):=by
  intro pins s σ H x y v u Q I r1 r2 h
  obtain ⟨i,j,e1,e2,q⟩:=h
  subst e1; subst e2
  obtain ⟨t,rfl⟩:=r1
  obtain ⟨t',rfl⟩:=r2
  exact iadd_int ⟨.int _,H,I.tok _,⟨_,rfl⟩,q⟩
end
section
variable {X:Cx} {pos:Pos}
def tWhile (c:TT) (tb:TS):TS:=fun D σ H=>∃ W:Nat → St → Hp → Prop,(∃ m,W m σ H) ∧ ∀ m σ H,W m σ H →
  c σ H fun b H1=>if b = true then ∃ N:St → Hp → Prop,(∀ σ' H',N σ' H' → ∃ m',m' < m ∧ W m' σ' H') ∧ tb { D with nx:=N,ct:=N,bk:=D.nx } σ H1 else D.nx σ H1
theorem ps_while {c:Expr} {body:List Stmt} {tc:TT} {tb:TS} (hp:PassesOwn (model X.prog X.w) X.A X.env X.xe) (hc:PT X c tc) (hb:PSs X body tb):PS X (.While c body [] pos) (tWhile tc tb):=by
  intro pins s σ H D I h
  obtain ⟨W,⟨m0,w0⟩,turn⟩:=h
  refine wpAny_While (codeAny_whileLoop (fun n s'=>∃ σ' H',Inv X pins σ' H' s' ∧ W n σ' H') ?_ m0 ⟨σ,H,I,w0⟩)
  rintro n s1 ⟨σ1,H1,I1,w1⟩
  refine wpAny_passesOwn hp (thn (hc pins s1 σ1 H1 _ I1 (turn n σ1 H1 w1)) fun b s2 ⟨H2,I2,q2⟩=>?_)
  cases b with
  | true =>
    obtain ⟨N,hN,q2⟩:=q2
    rw [if_pos rfl]
    refine wpAny_passesOwn hp (thn (hb pins s2 σ1 H2 _ I2 q2) fun f s3 q3=>?_)
    cases f with
    | next =>
      obtain ⟨σ3,H3,I3,n3⟩:=q3
      obtain ⟨m',hm,w3⟩:=hN σ3 H3 n3
      exact ⟨m',hm,σ3,H3,I3,w3⟩
    | cont =>
      obtain ⟨σ3,H3,I3,n3⟩:=q3
      obtain ⟨m',hm,w3⟩:=hN σ3 H3 n3
      exact ⟨m',hm,σ3,H3,I3,w3⟩
    | brk=>exact q3
    | ret v=>exact q3
  | false =>
    rw [if_neg Bool.false_ne_true]
    exact wpAny_execs_nil ⟨σ1,H2,I2,q2⟩
end
structure It where
  go:Nat → Hp → Prop
  yld:Nat → Hp → V → Hp → Prop
  stop:Nat → Hp → Prop
def FpOk (X:Cx) (pins:List (Addr × Obj)) (H:Hp) (b:Addr):Prop :=
  H b = none ∧ b ≠ X.env.locals ∧ b ∉ X.fs ∧ (b ∈ X.ex ∨ X.s₀.heap.objs.size ≤ b) ∧ (∀ x c,X.env.cells.lookup x = some c → c ≠ b) ∧ ∀ p ∈ X.pn ++ pins,p.1 ≠ b
theorem Inv.fpOk {X:Cx} {pins:List (Addr × Obj)} {σ:St} {H H':Hp} {s:Shared} {b:Addr} (I:Inv X pins σ H s) (hb:s.heap.objs.size ≤ b) (hn:H' b = none):FpOk X pins H' b:=by
  refine ⟨hn,Nat.ne_of_gt (Nat.lt_of_lt_of_le I.lt hb),I.nofs hb,.inr (Nat.le_trans I.sz hb),fun x c e z=>?_,fun p hp z=>?_⟩
  · obtain ⟨v,q⟩:=I.cell x c e
    exact absurd (Nat.lt_of_lt_of_le q.lt (by rw [z]; exact hb)) (Nat.lt_irrefl _)
  · exact absurd (Nat.lt_of_lt_of_le (Heap.lt_size (I.pin p hp).1) (by rw [z]; exact hb)) (Nat.lt_irrefl _)
structure Turn (P:Program) (w:World) (K:PySem.W.Frag) (tg:Expr) (J:It) (fp:List Addr) (it:Addr) (tn:Nat → Heap → Prop):Prop where
  mem:it ∈ fp
  obj:∀ i h,tn i h → ∀ b ∈ fp,∃ o,h.get? b = some o ∧ ∀ v,o.data ≠ .cell v
  keep:∀ i h h',tn i h → (∀ b ∈ fp,∀ o,h.get? b = some o → h'.get? b = some o) → tn i h'
  item:∀ (X:Cx),X.prog = P → X.w = w → X.K = K → X.calm = true → ∀ (i:Nat) (pins:List (Addr × Obj)) (s:Shared) (σ:St) (H:Hp) (E:Value → Shared → Prop),Inv X pins σ H s → (∀ b ∈ fp,FpOk X pins H b) → tn i s.heap → J.go i H →
    wpAny (model P w) X.A (pyNext (.ref it)) (fun r s1=>∃ u,r = some u ∧
      wpAny (model P w) X.A (letOwnedTupleGo tg (.ref it) u) (fun _ s2=>∃ x H',Inv X pins σ H' s2 ∧ RelV x u ∧ J.yld i H x H' ∧ tn (i + 1) s2.heap ∧ ∀ b ∈ fp,H' b = none) E s1) E s
  done:∀ (X:Cx),X.prog = P → X.w = w → X.K = K → X.calm = true → ∀ (i:Nat) (pins:List (Addr × Obj)) (s:Shared) (σ:St) (H:Hp) (E:Value → Shared → Prop),Inv X pins σ H s → (∀ b ∈ fp,FpOk X pins H b) → tn i s.heap → J.stop i H →
    wpAny (model P w) X.A (pyNext (.ref it)) (fun r s1=>r = none ∧ Inv X pins σ H s1) E s
  self:∀ (A:Around) (i:Nat) (s:Shared) (Q:Value → Shared → Prop) (E:Value → Shared → Prop),tn i s.heap → Q (.ref it) s → wpAny (model P w) A (pyIter (.ref it)) Q E s
abbrev TI:=St → Hp → (It → Hp → Prop) → Prop
def PIE (X:Cx) (pins:List (Addr × Obj)) (σ:St) (tg:Expr) (R:It → Hp → Prop) (itv:Value) (s2:Shared):Prop :=
  ∃ (it:Addr) (fp:List Addr) (tn:Nat → Heap → Prop) (J:It) (H':Hp),itv = .ref it ∧ Inv X pins σ H' s2 ∧ Turn X.prog X.w X.K tg J fp it tn ∧ tn 0 s2.heap ∧ (∀ b ∈ fp,FpOk X pins H' b) ∧ R J H'
def PI (X:Cx) (tg iter:Expr) (wi:TI):Prop :=
  ∀ (pins:List (Addr × Obj)) (s:Shared) (σ:St) (H:Hp) (R:It → Hp → Prop),Inv X pins σ H s → wi σ H R →
    wpAny (model X.prog X.w) X.A (eval iter X.env) (fun v s1=>wpAny (model X.prog X.w) X.A (pyIter v) (PIE X pins σ tg R) X.xe s1) X.xe s
theorem go_of {M:Model} {A:Around} {E:Value → Shared → Prop} {s:Shared} {tg:Expr} {it:Addr} {u:Value} {o:Obj} {n:String} {vs:Array Value} {Q:Unit → Shared → Prop} (ho:s.heap.get? it = some o) (hc:o.cls = .type n) (hd:o.data = .fields vs)
    (hn:["enumerate","zip","dict_itemiterator","dict_reverseitemiterator","odict_iterator","itertools.zip_longest","itertools.pairwise"].contains n = false) (hQ:Q () s):wpAny M A (letOwnedTupleGo tg (.ref it) u) Q E s:=by
  unfold letOwnedTupleGo
  cases tg <;> first
    | exact wpAny_pure hQ
    | (cases u <;> first
        | exact wpAny_pure hQ
        | (refine wpAny_bind (wpAny_load ho ?_)
           rw [hc,hd]
           show wpAny M A (if (["enumerate","zip","dict_itemiterator","dict_reverseitemiterator","odict_iterator","itertools.zip_longest","itertools.pairwise"].contains n && vs[0]? == some (rawInt _)) = true then _ else _) Q E s
           rw [if_neg (by intro h; rw [hn,Bool.false_and] at h; cases h)]
           exact wpAny_pure hQ))
def Itl (K:PySem.W.Frag) (a:Addr):It :=
  ⟨fun i H=>∃ xs x,SqL K H a xs ∧ xs[i]? = some x,fun i H x H'=>H' = H ∧ ∀ xs,SqL K H a xs → xs[i]? = some x,fun i H=>∃ xs,SqL K H a xs ∧ xs.length ≤ i⟩
def Itt (K:PySem.W.Frag) (a:Addr):It :=
  ⟨fun i H=>∃ xs x,SqT K H a xs ∧ xs[i]? = some x,fun i H x H'=>H' = H ∧ ∀ xs,SqT K H a xs → xs[i]? = some x,fun i H=>∃ xs,SqT K H a xs ∧ xs.length ≤ i⟩
def Itr (lo:Int) (n:Nat):It:=⟨fun i _=>i < n,fun i H x H'=>H' = H ∧ x = .int (lo + i),fun i _=>n ≤ i⟩
theorem turn_list {P:Program} {w:World} {K:PySem.W.Frag} {tg:Expr} (a it:Addr):Turn P w K tg (Itl K a) [it] it (fun i h=>h.IsListIter it a i) where
  mem:=by simp
  obj:=fun i h st b hb=>by
    have e:b = it:=by simpa using hb
    subst e
    obtain ⟨o,e,c,d⟩:=st
    exact ⟨o,e,fun v z=>by rw [d] at z; cases z⟩
  keep:=fun i h h' st k=>st.at fun o e=>k it (by simp) o e
  item:=by
    intro X hP hw hK hc i pins s σ H E I hf st hg
    subst hP hw hK
    obtain ⟨xs,x,hq,hx⟩:=hg
    obtain ⟨its,rv,p,hz⟩:=I.list hq
    obtain ⟨u,hu,ru⟩:=rv.get hx
    obtain ⟨f0,f1,f2,f3,f4,f5⟩:=hf it (by simp)
    refine wpAny_pyNext_list_item st p.isList (x:=u) (by simpa using hu) fun h' st' sb=>?_
    have I1:Inv X pins σ H { s with heap:=h' }:=I.turned (t':=s.toks) (fun b o hb e=>(sb.2 b hb).trans e) f0 f1 f3 f4 f5
    obtain ⟨o,e,c,d⟩:=id st'
    exact ⟨u,rfl,go_of (s:={ s with heap:=h' }) e c d (by decide) ⟨x,H,I1,ru,⟨rfl,fun ys hy=>by rw [I.list_inj hy hq]; exact hx⟩,st',fun b hb=>(hf b hb).1⟩⟩
  done:=by
    intro X hP hw hK hc i pins s σ H E I hf st hg
    subst hP hw hK
    obtain ⟨xs,hq,hx⟩:=hg
    obtain ⟨its,rv,p,hz⟩:=I.list hq
    obtain ⟨f0,f1,f2,f3,f4,f5⟩:=hf it (by simp)
    have hl:=rv.length
    exact wpAny_pyNext_list_end (I.ok.hd hc) st p.isList (by simp; omega) fun h' eb=>⟨rfl,I.turned (t':=s.toks) (fun b o hb e=>eb b o hb e) f0 f1 f3 f4 f5⟩
  self:=fun _ _ _ _ _ st h=>wpAny_pyIter_listiter st h
theorem turn_tuple {P:Program} {w:World} {K:PySem.W.Frag} {tg:Expr} (a it:Addr):Turn P w K tg (Itt K a) [it] it (fun i h=>h.IsTupleIter it a i) where
  mem:=by simp
  obj:=fun i h st b hb=>by
    have e:b = it:=by simpa using hb
    subst e
    obtain ⟨o,e,c,d⟩:=st
    exact ⟨o,e,fun v z=>by rw [d] at z; cases z⟩
  keep:=fun i h h' st k=>st.at fun o e=>k it (by simp) o e
  item:=by
    intro X hP hw hK hc i pins s σ H E I hf st hg
    subst hP hw hK
    obtain ⟨xs,x,hq,hx⟩:=hg
    obtain ⟨its,rv,p,hz⟩:=I.tuple hq
    obtain ⟨u,hu,ru⟩:=rv.get hx
    obtain ⟨f0,f1,f2,f3,f4,f5⟩:=hf it (by simp)
    refine wpAny_pyNext_tuple_item st (show s.heap.IsTuple a its.toArray from p) (x:=u) (by simpa using hu) fun h' st' sb=>?_
    have I1:Inv X pins σ H { s with heap:=h' }:=I.turned (t':=s.toks) (fun b o hb e=>(sb.2 b hb).trans e) f0 f1 f3 f4 f5
    obtain ⟨o,e,c,d⟩:=id st'
    exact ⟨u,rfl,go_of (s:={ s with heap:=h' }) e c d (by decide) ⟨x,H,I1,ru,⟨rfl,fun ys hy=>by rw [I.tuple_inj hy hq]; exact hx⟩,st',fun b hb=>(hf b hb).1⟩⟩
  done:=by
    intro X hP hw hK hc i pins s σ H E I hf st hg
    subst hP hw hK
    obtain ⟨xs,hq,hx⟩:=hg
    obtain ⟨its,rv,p,hz⟩:=I.tuple hq
    obtain ⟨f0,f1,f2,f3,f4,f5⟩:=hf it (by simp)
    have hl:=rv.length
    exact wpAny_pyNext_tuple_end (I.ok.hd hc) st (show s.heap.IsTuple a its.toArray from p) (by simp; omega) fun h' eb=>⟨rfl,I.turned (t':=s.toks) (fun b o hb e=>eb b o hb e) f0 f1 f3 f4 f5⟩
  self:=fun _ _ _ _ _ st h=>wpAny_pyIter_tupleiter st h
theorem turn_range {P:Program} {w:World} {K:PySem.W.Frag} {tg:Expr} (it:Addr) (lo:Int) (n:Nat):Turn P w K tg (Itr lo n) [it] it (fun i h=>IsRangeIter h it (lo + (i:Nat) * 1) ((n:Int) - (i:Nat)) 1) where
  mem:=by simp
  obj:=fun i h st b hb=>by
    have e:b = it:=by simpa using hb
    subst e
    exact ⟨_,st,fun v z=>by
      have z':Data.fields _ = Data.cell v:=z
      cases z'⟩
  keep:=fun i h h' st k=>k it (by simp) _ st
  item:=by
    intro X hP hw hK hc i pins s σ H E I hf st hg
    subst hP hw hK
    obtain ⟨f0,f1,f2,f3,f4,f5⟩:=hf it (by simp)
    have W:=Walks.range (prog:=X.prog) (w:=X.w) (I.ok.hd hc) it lo 1 n
    refine W.item i s _ _ hg st fun v h' tk hv st' kk=>?_
    obtain ⟨t,rfl⟩:=hv
    have I1:Inv X pins σ H { s with heap:=h',toks:=tk }:=I.turned (fun b o hb e=>kk b o (by simpa using hb) e) f0 f1 f3 f4 f5
    refine ⟨_,rfl,go_of (s:={ s with heap:=h',toks:=tk }) (n:="range_iterator") st' rfl rfl (by decide) ⟨.int (lo + i),H,I1,⟨t,?_⟩,⟨rfl,rfl⟩,st',fun b hb=>(hf b hb).1⟩⟩
    rw [Int.mul_one]
  done:=by
    intro X hP hw hK hc i pins s σ H E I hf st hg
    subst hP hw hK
    obtain ⟨f0,f1,f2,f3,f4,f5⟩:=hf it (by simp)
    exact wpAny_pyNext_range_end (I.ok.hd hc) st (by have:n ≤ i:=hg; omega) fun h' eb=>⟨rfl,I.turned (t':=s.toks) (fun b o hb e=>eb b o hb e) f0 f1 f3 f4 f5⟩
  self:=fun _ _ _ _ _ st h=>wpAny_pyIter_rangeiter st h
end L2
namespace L2
open PySem PySem.Spec PyProof.Rows
section
variable {X:Cx} {tg:Expr}
def iList (K:PySem.W.Frag) (tl:TE):TI:=fun σ H R=>tl σ H fun x H1=>∃ a,x = .ref a ∧ (∃ xs,SqL K H1 a xs) ∧ R (Itl K a) H1
def iTup (K:PySem.W.Frag) (tl:TE):TI:=fun σ H R=>tl σ H fun x H1=>∃ a,x = .ref a ∧ (∃ xs,SqT K H1 a xs) ∧ R (Itt K a) H1
theorem pi_list {l:Expr} {tl:TE} (hl:PE X l tl):PI X tg l (iList X.K tl):=by
  intro pins s σ H R I h
  refine thn (hl pins s σ H _ I h) fun v s1 ⟨x,H1,I1,r1,q1⟩=>?_
  obtain ⟨a,e,⟨xs,hq⟩,q⟩:=q1
  subst e
  cases r1
  obtain ⟨its,rv,p,hz⟩:=I1.list hq
  refine wpAny_pyIter_list p.isList ?_
  refine ⟨s1.heap.objs.size,[s1.heap.objs.size],_,_,H1,rfl,I1.kept (t':=s1.toks) fun b o e=>Heap.get?_push_of_some _ e,turn_list a _,⟨_,Heap.get?_push_size _ rfl,rfl,rfl⟩,fun b hb=>?_,q⟩
  have e:b = s1.heap.objs.size:=by simpa using hb
  subst e
  exact I1.fpOk (Nat.le_refl _) (I1.hok.fresh (Nat.le_refl _))
theorem pi_tup {l:Expr} {tl:TE} (hl:PE X l tl):PI X tg l (iTup X.K tl):=by
  intro pins s σ H R I h
  refine thn (hl pins s σ H _ I h) fun v s1 ⟨x,H1,I1,r1,q1⟩=>?_
  obtain ⟨a,e,⟨xs,hq⟩,q⟩:=q1
  subst e
  cases r1
  obtain ⟨its,rv,p,hz⟩:=I1.tuple hq
  refine wpAny_pyIter_tuple (show s1.heap.IsTuple a its.toArray from p) ?_
  refine ⟨s1.heap.objs.size,[s1.heap.objs.size],_,_,H1,rfl,I1.kept (t':=s1.toks) fun b o e=>Heap.get?_push_of_some _ e,turn_tuple a _,⟨_,Heap.get?_push_size _ rfl,rfl,rfl⟩,fun b hb=>?_,q⟩
  have e:b = s1.heap.objs.size:=by simpa using hb
  subst e
  exact I1.fpOk (Nat.le_refl _) (I1.hok.fresh (Nat.le_refl _))
theorem range_it {pins:List (Addr × Obj)} {σ:St} {H:Hp} {s:Shared} {R:It → Hp → Prop} {E:Value → Shared → Prop} {lo hi:Int} {t u v:Tok} {tk:Nat} (I:Inv X pins σ H s) (h1:-(2 ^ 62) ≤ lo) (h2:lo < 2 ^ 62) (h3:-(2 ^ 62) ≤ hi) (h4:hi < 2 ^ 62)
    (q:R (Itr lo (hi - lo).toNat) H):wpAny (model X.prog X.w) X.A (pyIter (.ref s.heap.objs.size)) (PIE X pins σ tg R) E { s with heap:=s.heap.push { cls:=.type "range",data:=.fields #[.int lo t,.int hi u,.int 1 v] },toks:=tk }:=by
  refine wpAny_pyIter_range (IsRange.new ..) (small_one h1 h2 h3 h4) ?_
  have I1:Inv X pins σ H { s with heap:=s.heap.push { cls:=.type "range",data:=.fields #[.int lo t,.int hi u,.int 1 v] },toks:=tk }:=I.kept fun b o e=>Heap.get?_push_of_some _ e
  refine ⟨(s.heap.push { cls:=.type "range",data:=.fields #[.int lo t,.int hi u,.int 1 v] }).objs.size,[(s.heap.push { cls:=.type "range",data:=.fields #[.int lo t,.int hi u,.int 1 v] }).objs.size],_,_,H,rfl,
    I1.kept (t':=tk) fun b o e=>Heap.get?_push_of_some _ e,turn_range _ lo (hi - lo).toNat,?_,fun b hb=>?_,q⟩
  · have e1:lo + ((0:Nat):Int) * 1 = lo:=by simp
    have e2:(((hi - lo).toNat:Nat):Int) - ((0:Nat):Int) = Builtin.Range.rangeSize lo hi 1:=by rw [rangeSize_one]; split <;> omega
    show IsRangeIter _ _ (lo + ((0:Nat):Int) * 1) ((((hi - lo).toNat:Nat):Int) - ((0:Nat):Int)) 1
    rw [e1,e2]
    exact Heap.get?_push_size _ rfl
  · have e:b = (s.heap.push { cls:=.type "range",data:=.fields #[.int lo t,.int hi u,.int 1 v] }).objs.size:=by simpa using hb
    subst e
    exact I1.fpOk (Nat.le_refl _) (I1.hok.fresh (Nat.le_refl _))
def iRng1 (ta:TA):TI:=fun σ H R=>ta σ H fun vs H1=>∃ j:Int,vs = [.int j] ∧ -(2 ^ 62) ≤ j ∧ j < 2 ^ 62 ∧ R (Itr 0 j.toNat) H1
def iRng2 (ta:TA):TI:=fun σ H R=>ta σ H fun vs H1=>∃ i j:Int,vs = [.int i,.int j] ∧ (-(2 ^ 62) ≤ i ∧ i < 2 ^ 62 ∧ -(2 ^ 62) ≤ j ∧ j < 2 ^ 62) ∧ R (Itr i (j - i).toNat) H1
theorem pi_range1 {a:Expr} {ta:TA} {p pos:Pos} (hg:Gl X "range") (hm:X.mg "range" = none) (ha:PA X [a] ta) (hs:starEach [a] X.env = [(false,eval a X.env)]:=by rfl):PI X tg (.Call (.Name "range" p) [a] [] pos) (iRng1 ta):=by
  intro pins s σ H R I h
  refine Call_ (ld_blt I hg hm boot_range (PyProof.Rows.callWith_type1 (thn (ha pos pins s σ H _ I h) fun us s1 ⟨vs,H1,I1,r1,q1⟩=>?_) hs rfl))
  obtain ⟨j,e,q1,q2,q⟩:=q1
  subst e
  cases r1 with
  | cons r rr =>
    cases rr
    obtain ⟨t,rfl⟩:=r
    exact call_range_1 (range_it I1 (by omega) (by omega) q1 q2 (by simpa using q))
theorem pi_range2 {a b:Expr} {ta:TA} {p pos:Pos} (hg:Gl X "range") (hm:X.mg "range" = none) (ha:PA X [a,b] ta) (hs:starEach [a,b] X.env = [(false,eval a X.env),(false,eval b X.env)]:=by rfl) (hs2:starEach [b] X.env = [(false,eval b X.env)]:=by rfl) :
    PI X tg (.Call (.Name "range" p) [a,b] [] pos) (iRng2 ta):=by
  intro pins s σ H R I h
  refine Call_ (ld_blt I hg hm boot_range (PyProof.Rows.callWith_type1 (thn (ha pos pins s σ H _ I h) fun us s1 ⟨vs,H1,I1,r1,q1⟩=>?_) (by rw [hs,hs2]) (by rw [hs2]; rfl)))
  obtain ⟨i,j,e,⟨q1,q2,q3,q4⟩,q⟩:=q1
  subst e
  cases r1 with
  | cons r rr =>
    cases rr with
    | cons r' rr =>
      cases rr
      obtain ⟨t,rfl⟩:=r
      obtain ⟨t',rfl⟩:=r'
      exact call_range_2 (range_it I1 q1 q2 q3 q4 q)
def tFor (wi:TI) (g:TG) (tb:TS):TS:=fun D σ H=>wi σ H fun J H1=>∃ W:Nat → Nat → St → Hp → Prop,(∃ m,W 0 m σ H1) ∧ ∀ i m σ H,W i m σ H →
  (J.stop i H ∧ D.nx σ H) ∨ (J.go i H ∧ ∃ N:St → Hp → Prop,(∀ σ' H',N σ' H' → ∃ m',m' < m ∧ W (i + 1) m' σ' H') ∧ ∀ x H',J.yld i H x H' → g x σ H' fun σ2 H2=>tb { D with nx:=N,ct:=N,bk:=D.nx } σ2 H2)
def pinsAt (fp:List Addr) (h:Heap):List (Addr × Obj):=fp.filterMap fun b=>(h.get? b).map fun o=>(b,o)
theorem mem_pinsAt {fp:List Addr} {h:Heap} {b:Addr} {o:Obj} (hb:b ∈ fp) (e:h.get? b = some o):(b,o) ∈ pinsAt fp h:=List.mem_filterMap.mpr ⟨b,hb,by rw [e]; rfl⟩
theorem of_pinsAt {fp:List Addr} {h:Heap} {p:Addr × Obj} (hp:p ∈ pinsAt fp h):p.1 ∈ fp ∧ h.get? p.1 = some p.2:=by
  obtain ⟨b,hb,e⟩:=List.mem_filterMap.mp hp
  cases q:h.get? b with
  | none=>rw [q] at e; cases e
  | some o =>
    rw [q] at e
    have e':(b,o) = p:=Option.some.inj e
    subst e'
    exact ⟨hb,q⟩
theorem Inv.pinned {pins:List (Addr × Obj)} {σ:St} {H:Hp} {s:Shared} {fp:List Addr} (I:Inv X pins σ H s) (hf:∀ b ∈ fp,FpOk X pins H b) (ho:∀ b ∈ fp,∃ o,s.heap.get? b = some o ∧ ∀ v,o.data ≠ .cell v):Inv X (pins ++ pinsAt fp s.heap) σ H s :=
  I.pins_of fun p hp=>(List.mem_append.mp hp).elim (fun z=>I.pin p (List.mem_append_right _ z)) fun z=>by
    obtain ⟨hb,e⟩:=of_pinsAt z
    obtain ⟨f0,f1,f2,_⟩:=hf p.1 hb
    obtain ⟨o,e',d⟩:=ho p.1 hb
    rw [e] at e'; cases e'
    exact ⟨e,f0,f1,f2,d⟩
theorem Inv.unpinned {pins pl:List (Addr × Obj)} {σ:St} {H:Hp} {s:Shared} (I:Inv X (pins ++ pl) σ H s):Inv X pins σ H s:=I.pins_of fun p hp=>I.pin p (List.mem_append_right _ (List.mem_append_left _ hp))
theorem ps_for {iter:Expr} {body:List Stmt} {wi:TI} {g:TG} {tb:TS} {pos:Pos} (hp:PassesOwn (model X.prog X.w) X.A X.env X.xe) (hc:X.calm = true) (hi:PI X tg iter wi) (hg:PG X tg g) (hb:PSs X body tb)
    (hs:∀ x,foldedSetIterable iter X.env x = pure x:=by intro _; rfl):PS X (.For tg iter body [] pos) (tFor wi g tb):=by
  intro pins s σ H D I h
  refine wpAny_For (thn (hi pins s σ H _ I h) fun v s1 h1=>thn h1 fun itv s2 h2=>?_) hs
  obtain ⟨it,fp,tn,J,H2,e,I2,T,st2,f2,W,⟨m0,w0⟩,turn⟩:=h2
  subst e
  have stat:∀ {H':Hp},(∀ b ∈ fp,H' b = none) → ∀ b ∈ fp,FpOk X pins H' b:=fun hn b hb=>⟨hn b hb,(f2 b hb).2⟩
  refine codeAny_forLoop_any (fun n s'=>∃ i σ' H',Inv X pins σ' H' s' ∧ tn i s'.heap ∧ (∀ b ∈ fp,H' b = none) ∧ W i n σ' H') ?_ m0 ⟨0,σ,H2,I2,st2,fun b hb=>(f2 b hb).1,w0⟩
  rintro n s3 ⟨i,σ3,H3,I3,st3,fr3,w3⟩
  rcases turn i n σ3 H3 w3 with ⟨stop,qn⟩ | ⟨go,N,hN,step⟩
  · refine wpAny_passesOwn hp (thn (T.done X rfl rfl rfl hc i pins s3 σ3 H3 X.xe I3 (stat fr3) st3 stop) fun r s4 ⟨hr,I4⟩=>?_)
    subst hr
    exact wpAny_execs_nil ⟨σ3,H3,I4,qn⟩
  · refine wpAny_passesOwn hp (thn (T.item X rfl rfl rfl hc i pins s3 σ3 H3 X.xe I3 (stat fr3) st3 go) fun r s4 ⟨u,hr,h4⟩=>?_)
    subst hr
    refine wpAny_passesOwn hp (thn h4 fun _ s5 ⟨x,H5,I5,r5,y5,st5,fr5⟩=>?_)
    have I5':=I5.pinned (stat fr5) (T.obj _ _ st5)
    refine wpAny_passesOwn hp (thn (hg _ s5 σ3 H5 x u _ I5' r5 (step x H5 y5)) fun _ s6 ⟨σ6,H6,I6,q6⟩=>?_)
    refine wpAny_passesOwn hp (thn (hb _ s6 σ6 H6 _ I6 q6) fun f s7 q7=>?_)
    have again:∀ {σ7:St} {H7:Hp},Inv X (pins ++ pinsAt fp s5.heap) σ7 H7 s7 → N σ7 H7 → ∃ m,m < n ∧ ∃ i σ' H',Inv X pins σ' H' s7 ∧ tn i s7.heap ∧ (∀ b ∈ fp,H' b = none) ∧ W i m σ' H':=fun {σ7 H7} I7 n7=>by
      obtain ⟨m',hm,w7⟩:=hN σ7 H7 n7
      refine ⟨m',hm,i + 1,σ7,H7,I7.unpinned,T.keep _ _ _ st5 fun b hb o e=>(I7.pin (b,o) (List.mem_append_right _ (List.mem_append_right _ (mem_pinsAt hb e)))).1,fun b hb=>?_,w7⟩
      obtain ⟨o,e,d⟩:=T.obj _ _ st5 b hb
      exact (I7.pin (b,o) (List.mem_append_right _ (List.mem_append_right _ (mem_pinsAt hb e)))).2.1
    cases f with
    | next=>obtain ⟨σ7,H7,I7,n7⟩:=q7; exact again I7 n7
    | cont=>obtain ⟨σ7,H7,I7,n7⟩:=q7; exact again I7 n7
    | brk=>obtain ⟨σ7,H7,I7,q7⟩:=q7; exact ⟨σ7,H7,I7.unpinned,q7⟩
    | ret v=>obtain ⟨x7,σ7,H7,I7,r7,q7⟩:=q7; exact ⟨x7,σ7,H7,I7.unpinned,r7,q7⟩
end
theorem for_list {K:PySem.W.Frag} {a:Addr} {xs:List V} {g:TG} {tb:TS} {D:Ends} {σ:St} {H:Hp} (Pv:Nat → St → Hp → Prop) (h0:Pv 0 σ H) (hl:∀ i σ H,i ≤ xs.length → Pv i σ H → SqL K H a xs)
    (hs:∀ i x σ H,xs[i]? = some x → Pv i σ H → g x σ H fun σ2 H2=>tb { D with nx:=Pv (i + 1),ct:=Pv (i + 1),bk:=D.nx } σ2 H2) (hd:∀ σ H,Pv xs.length σ H → D.nx σ H) :
    ∃ W:Nat → Nat → St → Hp → Prop,(∃ m,W 0 m σ H) ∧ ∀ i m σ H,W i m σ H →
      ((Itl K a).stop i H ∧ D.nx σ H) ∨ ((Itl K a).go i H ∧ ∃ N:St → Hp → Prop,(∀ σ' H',N σ' H' → ∃ m',m' < m ∧ W (i + 1) m' σ' H') ∧ ∀ x H',(Itl K a).yld i H x H' → g x σ H' fun σ2 H2=>tb { D with nx:=N,ct:=N,bk:=D.nx } σ2 H2):=by
  refine ⟨fun i m σ H=>m = xs.length - i ∧ i ≤ xs.length ∧ Pv i σ H,⟨xs.length,by simp,Nat.zero_le _,h0⟩,?_⟩
  rintro i m σ H ⟨rfl,hi,p⟩
  have q:=hl i σ H hi p
  by_cases hlt:i < xs.length
  · refine .inr ⟨⟨xs,xs[i],q,by simp [hlt]⟩,Pv (i + 1),fun σ' H' p'=>⟨xs.length - (i + 1),by omega,rfl,hlt,p'⟩,fun x H' y=>?_⟩
    obtain ⟨e,y⟩:=y
    subst e
    exact hs i x σ _ (y xs q) p
  · have e:i = xs.length:=by omega
    subst e
    exact .inl ⟨⟨xs,q,Nat.le_refl _⟩,hd σ H p⟩
theorem for_tup {K:PySem.W.Frag} {a:Addr} {xs:List V} {g:TG} {tb:TS} {D:Ends} {σ:St} {H:Hp} (Pv:Nat → St → Hp → Prop) (h0:Pv 0 σ H) (hl:∀ i σ H,i ≤ xs.length → Pv i σ H → SqT K H a xs)
    (hs:∀ i x σ H,xs[i]? = some x → Pv i σ H → g x σ H fun σ2 H2=>tb { D with nx:=Pv (i + 1),ct:=Pv (i + 1),bk:=D.nx } σ2 H2) (hd:∀ σ H,Pv xs.length σ H → D.nx σ H) :
    ∃ W:Nat → Nat → St → Hp → Prop,(∃ m,W 0 m σ H) ∧ ∀ i m σ H,W i m σ H →
      ((Itt K a).stop i H ∧ D.nx σ H) ∨ ((Itt K a).go i H ∧ ∃ N:St → Hp → Prop,(∀ σ' H',N σ' H' → ∃ m',m' < m ∧ W (i + 1) m' σ' H') ∧ ∀ x H',(Itt K a).yld i H x H' → g x σ H' fun σ2 H2=>tb { D with nx:=N,ct:=N,bk:=D.nx } σ2 H2):=by
  refine ⟨fun i m σ H=>m = xs.length - i ∧ i ≤ xs.length ∧ Pv i σ H,⟨xs.length,by simp,Nat.zero_le _,h0⟩,?_⟩
  rintro i m σ H ⟨rfl,hi,p⟩
  have q:=hl i σ H hi p
  by_cases hlt:i < xs.length
  · refine .inr ⟨⟨xs,xs[i],q,by simp [hlt]⟩,Pv (i + 1),fun σ' H' p'=>⟨xs.length - (i + 1),by omega,rfl,hlt,p'⟩,fun x H' y=>?_⟩
    obtain ⟨e,y⟩:=y
    subst e
    exact hs i x σ _ (y xs q) p
  · have e:i = xs.length:=by omega
    subst e
    exact .inl ⟨⟨xs,q,Nat.le_refl _⟩,hd σ H p⟩
theorem for_range {lo:Int} {n:Nat} {g:TG} {tb:TS} {D:Ends} {σ:St} {H:Hp} (Pv:Nat → St → Hp → Prop) (h0:Pv 0 σ H)
    (hs:∀ i σ H,i < n → Pv i σ H → g (.int (lo + i)) σ H fun σ2 H2=>tb { D with nx:=Pv (i + 1),ct:=Pv (i + 1),bk:=D.nx } σ2 H2) (hd:∀ σ H,Pv n σ H → D.nx σ H) :
    ∃ W:Nat → Nat → St → Hp → Prop,(∃ m,W 0 m σ H) ∧ ∀ i m σ H,W i m σ H →
      ((Itr lo n).stop i H ∧ D.nx σ H) ∨ ((Itr lo n).go i H ∧ ∃ N:St → Hp → Prop,(∀ σ' H',N σ' H' → ∃ m',m' < m ∧ W (i + 1) m' σ' H') ∧ ∀ x H',(Itr lo n).yld i H x H' → g x σ H' fun σ2 H2=>tb { D with nx:=N,ct:=N,bk:=D.nx } σ2 H2):=by
  refine ⟨fun i m σ H=>m = n - i ∧ i ≤ n ∧ Pv i σ H,⟨n,by simp,Nat.zero_le _,h0⟩,?_⟩
  rintro i m σ H ⟨rfl,hi,p⟩
  by_cases hlt:i < n
  · refine .inr ⟨hlt,Pv (i + 1),fun σ' H' p'=>⟨n - (i + 1),by omega,rfl,hlt,p'⟩,fun x H' y=>?_⟩
    obtain ⟨e,y⟩:=y
    subst e y
    exact hs i σ _ hlt p
  · have e:i = n:=by omega
    subst e
    exact .inl ⟨Nat.le_refl _,hd σ H p⟩
end L2
namespace L2
open PySem PySem.Spec PyProof.Rows
abbrev R2:=V → V → Hp → VK → Prop
def OpR (X:Cx) (f:Value → Value → Sem Value) (r:R2):Prop :=
  ∀ (pins:List (Addr × Obj)) (s:Shared) (σ:St) (H:Hp) (x y:V) (v u:Value) (Q:VK),Inv X pins σ H s → RelV x v → RelV y u → r x y H Q →
    wpAny (model X.prog X.w) X.A (f v u) (EP X pins σ Q) X.xe s
def UnR (X:Cx) (f:Value → Sem Value) (r:V → Hp → VK → Prop):Prop :=
  ∀ (pins:List (Addr × Obj)) (s:Shared) (σ:St) (H:Hp) (x:V) (v:Value) (Q:VK),Inv X pins σ H s → RelV x v → r x H Q →
    wpAny (model X.prog X.w) X.A (f v) (EP X pins σ Q) X.xe s
def CallR (X:Cx) (f:Value) (r:List V → Hp → VK → Prop):Prop :=
  ∀ (pins:List (Addr × Obj)) (s:Shared) (σ:St) (H:Hp) (xs:List V) (us:List Value) (Q:VK),Inv X pins σ H s → Vals xs us → r xs H Q →
    wpAny (model X.prog X.w) X.A (call f us) (EP X pins σ Q) X.xe s
def TruR (X:Cx) (r:V → Hp → (Bool → Hp → Prop) → Prop):Prop :=
  ∀ (pins:List (Addr × Obj)) (s:Shared) (σ:St) (H:Hp) (x:V) (v:Value) (Q:Bool → Hp → Prop),Inv X pins σ H s → RelV x v → r x H Q →
    wpAny (model X.prog X.w) X.A (truthy v) (TP X pins σ Q) X.xe s
def tOp (r:R2) (ta tb:TE):TE:=fun σ H Q=>ta σ H fun x H1=>tb σ H1 fun y H2=>r x y H2 Q
def tUn (r:V → Hp → VK → Prop) (ta:TE):TE:=fun σ H Q=>ta σ H fun x H1=>r x H1 Q
def rI (C:Int → Int → Prop) (g:Int → Int → V):R2:=fun x y H Q=>∃ i j,x = .int i ∧ y = .int j ∧ C i j ∧ Q (g i j) H
def rI0 (g:Int → Int → V):R2:=fun x y H Q=>∃ i j,x = .int i ∧ y = .int j ∧ Q (g i j) H
def rU (g:Int → V):V → Hp → VK → Prop:=fun x H Q=>∃ i,x = .int i ∧ Q (g i) H
section
variable {X:Cx} {a b c:Expr} {ta tb tc:TE} {pos:Pos}
theorem binT (ha:PE X a ta) (hb:PE X b tb) {pins:List (Addr × Obj)} {s:Shared} {σ:St} {H:Hp} {R:V → V → Hp → Prop} (I:Inv X pins σ H s)
    (h:ta σ H fun x H1=>tb σ H1 fun y H2=>R x y H2) {Q:Value → Shared → Prop} {f:Value → Value → Sem Value}
    (hf:∀ v u s2 x y H2,Inv X pins σ H2 s2 → RelV x v → RelV y u → R x y H2 → wpAny (model X.prog X.w) X.A (f v u) Q X.xe s2) :
    wpAny (model X.prog X.w) X.A (eval a X.env) (fun v s₁=>wpAny (model X.prog X.w) X.A (eval b X.env) (fun u s₂=>wpAny (model X.prog X.w) X.A (f v u) Q X.xe s₂) X.xe s₁) X.xe s:=by
  refine thn (ha pins s σ H _ I h) fun v s1 ⟨x,H1,I1,r1,q1⟩=>?_
  refine thn (hb pins s1 σ H1 _ I1 q1) fun u s2 ⟨y,H2,I2,r2,q2⟩=>?_
  exact hf v u s2 x y H2 I2 r1 r2 q2
theorem pe_op {op:Operator} {r:R2} (ho:OpR X (binaryOp op) r) (ha:PE X a ta) (hb:PE X b tb):PE X (.BinOp a op b pos) (tOp r ta tb):=by
  intro pins s σ H Q I h
  exact wpAny_BinOp (binT ha hb I h fun v u s2 x y H2 I2 rx ry q=>ho pins s2 σ H2 x y v u Q I2 rx ry q)
theorem pe_un {op:UnaryOp} {r:V → Hp → VK → Prop} (ho:UnR X (unaryOp op) r) (ha:PE X a ta):PE X (.UnaryOp op a pos) (tUn r ta):=by
  intro pins s σ H Q I h
  exact UnaryOp_ (thn (ha pins s σ H _ I h) fun v s1 ⟨x,H1,I1,r1,q1⟩=>ho pins s1 σ H1 x v Q I1 r1 q1)
theorem opI {f:Value → Value → Sem Value} {C:Int → Int → Prop} {g:Int → Int → Int}
    (rule:∀ (i j:Int) (t u:Tok) (s:Shared) (Q:Value → Shared → Prop) (E:Value → Shared → Prop),C i j → Q (.int (g i j) s.toks) { s with toks:=s.toks + 1 } → wpAny (model X.prog X.w) X.A (f (.int i t) (.int j u)) Q E s) :
    OpR X f (rI C fun i j=>.int (g i j)):=by
  intro pins s σ H x y v u Q I rx ry h
  obtain ⟨i,j,rfl,rfl,hc,q⟩:=h
  obtain ⟨t,rfl⟩:=rx
  obtain ⟨t',rfl⟩:=ry
  exact rule i j t t' s _ _ hc ⟨.int (g i j),H,I.tok _,⟨_,rfl⟩,q⟩
theorem opI0 {f:Value → Value → Sem Value} {g:Int → Int → Int}
    (rule:∀ (i j:Int) (t u:Tok) (s:Shared) (Q:Value → Shared → Prop) (E:Value → Shared → Prop),Q (.int (g i j) s.toks) { s with toks:=s.toks + 1 } → wpAny (model X.prog X.w) X.A (f (.int i t) (.int j u)) Q E s) :
    OpR X f (rI0 fun i j=>.int (g i j)):=by
  intro pins s σ H x y v u Q I rx ry h
  obtain ⟨i,j,rfl,rfl,q⟩:=h
  obtain ⟨t,rfl⟩:=rx
  obtain ⟨t',rfl⟩:=ry
  exact rule i j t t' s _ _ ⟨.int (g i j),H,I.tok _,⟨_,rfl⟩,q⟩
theorem opB0 {f:Value → Value → Sem Value} {g:Int → Int → Bool}
    (rule:∀ (i j:Int) (t u:Tok) (s:Shared) (Q:Value → Shared → Prop) (E:Value → Shared → Prop),Q (.bool (g i j)) s → wpAny (model X.prog X.w) X.A (f (.int i t) (.int j u)) Q E s) :
    OpR X f (rI0 fun i j=>.bl (g i j)):=by
  intro pins s σ H x y v u Q I rx ry h
  obtain ⟨i,j,rfl,rfl,q⟩:=h
  obtain ⟨t,rfl⟩:=rx
  obtain ⟨t',rfl⟩:=ry
  exact rule i j t t' s _ _ ⟨.bl (g i j),H,I,rfl,q⟩
def CDiv (i j:Int):Prop:=0 < j ∧ j < 1073741824
def CPow (i j:Int):Prop:=0 ≤ j ∧ j ≤ 1000000 ∧ i.natAbs < 2 ^ 64
def CMul (i j:Int):Prop:=(-(2 ^ 64) < i ∧ i < 2 ^ 64) ∨ (-(2 ^ 64) < j ∧ j < 2 ^ 64)
theorem CMul.ok {i j:Int} (h:CMul i j):IntMulOk i j:=by
  rcases h with ⟨h1,h2⟩ | ⟨h1,h2⟩
  · exact .of_left (intBits_le_64 h1 h2)
  · exact .of_right (intBits_le_64 h1 h2)
theorem op_add:OpR X (binaryOp .Add) (rI0 fun i j=>.int (i + j)):=opI0 fun _ _ _ _ _ _ _ q=>add_int q
theorem op_sub:OpR X (binaryOp .Sub) (rI0 fun i j=>.int (i - j)):=opI0 fun _ _ _ _ _ _ _ q=>sub_int q
theorem op_mul:OpR X (binaryOp .Mult) (rI CMul fun i j=>.int (i * j)):=opI fun _ _ _ _ _ _ _ hc q=>mul_int q hc.ok
theorem op_fdiv:OpR X (binaryOp .FloorDiv) (rI CDiv fun i j=>.int (i / j)):=opI fun i j _ _ _ _ _ hc q=>by
  have h1:(0:Int) < j:=hc.1
  have h2:j < 1073741824:=hc.2
  exact floordiv_int (by omega) (by rw [Int.fdiv_eq_ediv_of_nonneg i (by omega)]; exact q) (.inl (PyProof.noPylong_small (by omega)))
theorem op_mod:OpR X (binaryOp .Mod) (rI (fun _ j=>0 < j) fun i j=>.int (i % j)):=opI fun i j _ _ _ _ _ hc q=>by
  have h1:(0:Int) < j:=hc
  exact mod_int' (by omega) (by rw [Int.fmod_eq_emod_of_nonneg i (by omega)]; exact q)
theorem op_pow:OpR X (binaryOp .Pow) (rI CPow fun i j=>.int (i ^ j.toNat)):=opI fun _ _ _ _ _ _ _ hc q=>pow_int_small hc.1 hc.2.1 hc.2.2 q
theorem unI {f:Value → Sem Value} {g:Int → Int}
    (rule:∀ (i:Int) (t:Tok) (s:Shared) (Q:Value → Shared → Prop) (E:Value → Shared → Prop),Q (.int (g i) s.toks) { s with toks:=s.toks + 1 } → wpAny (model X.prog X.w) X.A (f (.int i t)) Q E s) :
    UnR X f (rU fun i=>.int (g i)):=by
  intro pins s σ H x v Q I rx h
  obtain ⟨i,rfl,q⟩:=h
  obtain ⟨t,rfl⟩:=rx
  exact rule i t s _ _ ⟨.int (g i),H,I.tok _,⟨_,rfl⟩,q⟩
theorem un_neg:UnR X (unaryOp .USub) (rU fun i=>.int (-i)):=unI fun _ _ _ _ _ q=>neg_int q
end
def scal:V → V → Bool
  | .non,.non=>true | .non,.int _=>true | .int _,.non=>true | .non,.bl _=>true | .bl _,.non=>true | .non,.str _=>true | .str _,.non=>true
  | .int _,.int _=>true | .bl _,.bl _=>true | .str _,.str _=>true | .byt _,.byt _=>true
  | .int _,.str _=>true | .str _,.int _=>true | .bl _,.str _=>true | .str _,.bl _=>true
  | _,_=>false
def rEq:R2:=fun x y H Q=>scal x y = true ∧ Q (.bl (decide (x = y))) H
def rNe:R2:=fun x y H Q=>scal x y = true ∧ Q (.bl (!decide (x = y))) H
theorem dec_int {i j:Int}:decide (V.int i = V.int j) = (i == j):=by
  rw [Bool.eq_iff_iff]
  simp
theorem dec_bl {i j:Bool}:decide (V.bl i = V.bl j) = (i == j):=by
  rw [Bool.eq_iff_iff]
  simp
theorem dec_str {i j:Str}:decide (V.str i = V.str j) = (i == j):=by
  rw [Bool.eq_iff_iff]
  simp
theorem dec_byt {i j:Array UInt8}:decide (V.byt i = V.byt j) = (i.toList == j.toList):=by
  rw [Bool.eq_iff_iff]
  cases i
  cases j
  simp
section
variable {X:Cx} {a b c:Expr} {ta tb tc:TE} {pos:Pos}
theorem fin_bl {pins:List (Addr × Obj)} {σ:St} {H:Hp} {s:Shared} {Q:VK} {k k':Bool} (I:Inv X pins σ H s) (q:Q (.bl k) H) (e:k = k'):EP X pins σ Q (.bool k') s:=by
  subst e
  exact ⟨.bl k,H,I,rfl,q⟩
theorem op_eq:OpR X (compareOp .Eq) rEq:=by
  intro pins s σ H x y v u Q I rx ry h
  obtain ⟨hs,q⟩:=h
  cases x with
  | non =>
    cases rx
    cases y with
    | non=>cases ry; exact PySem.EqNone.eq_none_none (fin_bl I q (by simp))
    | bl j=>cases ry; exact PySem.EqNone.eq_none_bool (fin_bl I q (by simp))
    | int j=>obtain ⟨t',rfl⟩:=ry; exact PySem.EqNone.eq_none_int (fin_bl I q (by simp))
    | str j=>obtain ⟨t',rfl⟩:=ry; exact PySem.EqNone.eq_none_str (fin_bl I q (by simp))
    | _=>exact absurd (show false = true from hs) Bool.false_ne_true
  | bl i =>
    cases rx
    cases y with
    | non=>cases ry; exact PySem.EqNone.eq_bool_none (fin_bl I q (by simp))
    | bl j=>cases ry; exact eq_bool (fin_bl I q dec_bl)
    | str j=>obtain ⟨t',rfl⟩:=ry; exact PySem.EqMixed.eq_bool_str (fin_bl I q (by simp))
    | _=>exact absurd (show false = true from hs) Bool.false_ne_true
  | int i =>
    obtain ⟨t,rfl⟩:=rx
    cases y with
    | non=>cases ry; exact PySem.EqNone.eq_int_none (fin_bl I q (by simp))
    | int j=>obtain ⟨t',rfl⟩:=ry; exact eq_int (fin_bl I q dec_int)
    | str j=>obtain ⟨t',rfl⟩:=ry; exact PySem.EqMixed.eq_int_str (fin_bl I q (by simp))
    | _=>exact absurd (show false = true from hs) Bool.false_ne_true
  | str i =>
    obtain ⟨t,rfl⟩:=rx
    cases y with
    | non=>cases ry; exact PySem.EqNone.eq_str_none (fin_bl I q (by simp))
    | bl j=>cases ry; exact PySem.EqMixed.eq_str_bool (fin_bl I q (by simp))
    | int j=>obtain ⟨t',rfl⟩:=ry; exact PySem.EqMixed.eq_str_int (fin_bl I q (by simp))
    | str j=>obtain ⟨t',rfl⟩:=ry; exact eq_str (fin_bl I q dec_str)
    | _=>exact absurd (show false = true from hs) Bool.false_ne_true
  | byt i =>
    obtain ⟨t,rfl⟩:=rx
    cases y with
    | byt j=>obtain ⟨t',rfl⟩:=ry; exact PySem.W.eq_bytes (fin_bl I q dec_byt)
    | _=>exact absurd (show false = true from hs) Bool.false_ne_true
  | _=>cases y <;> exact absurd (show false = true from hs) Bool.false_ne_true
theorem op_ne:OpR X (compareOp .NotEq) rNe:=by
  intro pins s σ H x y v u Q I rx ry h
  obtain ⟨hs,q⟩:=h
  cases x with
  | non =>
    cases rx
    cases y with
    | non=>cases ry; exact PySem.EqNone.ne_none_none (fin_bl I q (by simp))
    | bl j=>cases ry; exact PySem.EqNone.ne_none_bool (fin_bl I q (by simp))
    | int j=>obtain ⟨t',rfl⟩:=ry; exact PySem.EqNone.ne_none_int (fin_bl I q (by simp))
    | str j=>obtain ⟨t',rfl⟩:=ry; exact PySem.EqNone.ne_none_str (fin_bl I q (by simp))
    | _=>exact absurd (show false = true from hs) Bool.false_ne_true
  | bl i =>
    cases rx
    cases y with
    | non=>cases ry; exact PySem.EqNone.ne_bool_none (fin_bl I q (by simp))
    | bl j=>cases ry; exact ne_bool (fin_bl I q (congrArg not dec_bl))
    | str j=>obtain ⟨t',rfl⟩:=ry; exact PySem.EqMixed.ne_bool_str (fin_bl I q (by simp))
    | _=>exact absurd (show false = true from hs) Bool.false_ne_true
  | int i =>
    obtain ⟨t,rfl⟩:=rx
    cases y with
    | non=>cases ry; exact PySem.EqNone.ne_int_none (fin_bl I q (by simp))
    | int j=>obtain ⟨t',rfl⟩:=ry; exact ne_int (fin_bl I q (congrArg not dec_int))
    | str j=>obtain ⟨t',rfl⟩:=ry; exact PySem.EqMixed.ne_int_str (fin_bl I q (by simp))
    | _=>exact absurd (show false = true from hs) Bool.false_ne_true
  | str i =>
    obtain ⟨t,rfl⟩:=rx
    cases y with
    | non=>cases ry; exact PySem.EqNone.ne_str_none (fin_bl I q (by simp))
    | bl j=>cases ry; exact PySem.EqMixed.ne_str_bool (fin_bl I q (by simp))
    | int j=>obtain ⟨t',rfl⟩:=ry; exact PySem.EqMixed.ne_str_int (fin_bl I q (by simp))
    | str j=>obtain ⟨t',rfl⟩:=ry; exact ne_str (fin_bl I q (congrArg not dec_str))
    | _=>exact absurd (show false = true from hs) Bool.false_ne_true
  | byt i =>
    obtain ⟨t,rfl⟩:=rx
    cases y with
    | byt j=>obtain ⟨t',rfl⟩:=ry; exact PySem.W.ne_bytes (fin_bl I q (congrArg not dec_byt))
    | _=>exact absurd (show false = true from hs) Bool.false_ne_true
  | _=>cases y <;> exact absurd (show false = true from hs) Bool.false_ne_true
theorem op_lt:OpR X (compareOp .Lt) (rI0 fun i j=>.bl (decide (i < j))):=opB0 fun _ _ _ _ _ _ _ q=>lt_int q
theorem op_le:OpR X (compareOp .LtE) (rI0 fun i j=>.bl (decide (i ≤ j))):=opB0 fun _ _ _ _ _ _ _ q=>le_int q
theorem op_gt:OpR X (compareOp .Gt) (rI0 fun i j=>.bl (decide (j < i))):=opB0 fun _ _ _ _ _ _ _ q=>gt_int q
theorem op_ge:OpR X (compareOp .GtE) (rI0 fun i j=>.bl (decide (j ≤ i))):=opB0 fun _ _ _ _ _ _ _ q=>ge_int q
theorem op_in_str:OpR X (compareOp .In) (fun x y H Q=>∃ i j,x = .str i ∧ y = .str j ∧ Q (.bl (!(Builtin.Str.occurrences j i 0 j.length 1).isEmpty)) H):=by
  intro pins s σ H x y v u Q I rx ry h
  obtain ⟨i,j,rfl,rfl,q⟩:=h
  obtain ⟨t,rfl⟩:=rx
  obtain ⟨t',rfl⟩:=ry
  exact in_str (fin_bl I q rfl)
theorem OpR.or {f:Value → Value → Sem Value} {r r':R2} (h:OpR X f r) (h':OpR X f r'):OpR X f (fun x y H Q=>r x y H Q ∨ r' x y H Q):=by
  intro pins s σ H x y v u Q I rx ry q
  rcases q with q | q
  · exact h pins s σ H x y v u Q I rx ry q
  · exact h' pins s σ H x y v u Q I rx ry q
theorem nomark (b:Expr) {op:CmpOp} (h:op ≠ .In:=by decide) (h2:op ≠ .NotIn:=by decide):behindInMarks op b = false:=by
  have e1:(op == CmpOp.In) = false:=by cases op <;> first | rfl | exact absurd rfl h
  have e2:(op == CmpOp.NotIn) = false:=by cases op <;> first | rfl | exact absurd rfl h2
  cases b <;> simp [behindInMarks,e1,e2]
theorem pe_cmpR {op:CmpOp} {r:R2} (ho:OpR X (compareOp op) r) (ha:PE X a ta) (hb:PE X b tb) (hm:behindInMarks op b = false):PE X (.Compare a [op] [b] pos) (tOp r ta tb):=by
  intro pins s σ H Q I h
  exact wpAny_Compare1 (binT ha hb I h fun v u s2 x y H2 I2 rx ry q=>ho pins s2 σ H2 x y v u Q I2 rx ry q) hm
def tTest (t:TE):TT:=fun σ H Q=>t σ H fun x H'=>∃ k,x = .bl k ∧ Q k H'
theorem pt_cmpR {op:CmpOp} {r:R2} (ho:OpR X (compareOp op) r) (ha:PE X a ta) (hb:PE X b tb) (hm:behindInMarks op b = false):PT X (.Compare a [op] [b] pos) (tTest (tOp r ta tb)):=by
  intro pins s σ H Q I h
  refine wpAny_isTrue_Compare1 (thn (ha pins s σ H _ I h) fun v s1 ⟨x,H1,I1,r1,q1⟩=>thn (hb pins s1 σ H1 _ I1 q1) fun u s2 ⟨y,H2,I2,r2,q2⟩ =>
    thn (ho pins s2 σ H2 x y v u _ I2 r1 r2 q2) fun c s3 ⟨z,H3,I3,r3,k,e,q3⟩=>?_) hm
  subst e
  cases r3
  exact wpAny_truthy_bool ⟨H3,I3,q3⟩
def tChain (r r':R2) (ta tb tc:TE):TE:=fun σ H Q=>ta σ H fun x H1=>tb σ H1 fun y H2=>r x y H2 fun z H3=>∃ k,z = .bl k ∧
  (if k = true then tc σ H3 fun w' H4=>r' y w' H4 Q else Q (.bl false) H3)
theorem pt_chain {op op':CmpOp} {r r':R2} (ho:OpR X (compareOp op) r) (ho':OpR X (compareOp op') r') (ha:PE X a ta) (hb:PE X b tb) (hc:PE X c tc)
    (hm:lastMarks [op,op'] [b,c] = false:=by with_unfolding_all rfl):PT X (.Compare a [op,op'] [b,c] pos) (tTest (tChain r r' ta tb tc)):=by
  intro pins s σ H Q I h
  refine isTrue_chain (thn (ha pins s σ H _ I h) fun v s1 ⟨x,H1,I1,r1,q1⟩=>test_link (thn (hb pins s1 σ H1 _ I1 q1) fun u s2 ⟨y,H2,I2,r2,q2⟩ =>
    thn (ho pins s2 σ H2 x y v u _ I2 r1 r2 q2) fun d s3 ⟨z,H3,I3,r3,k,e,q3⟩=>?_)) hm
  subst e
  cases r3
  refine wpAny_truthy_bool ?_
  cases k with
  | false =>
    obtain ⟨k',e',q'⟩:=q3
    cases e'
    exact ite_ff ⟨H3,I3,q'⟩
  | true =>
    refine ite_tt (test_last (thn (hc pins s3 σ H3 _ I3 q3) fun w' s4 ⟨z',H4,I4,r4,q4⟩=>thn (ho' pins s4 σ H4 y z' u w' _ I4 r2 r4 q4) fun d' s5 ⟨z2,H5,I5,r5,k2,e2,q5⟩=>?_))
    subst e2
    cases r5
    exact wpAny_truthy_bool ⟨H5,I5,q5⟩
def TruV (K:PySem.W.Frag) (x:V) (H:Hp) (k:Bool):Prop :=
  match x with
  | .non=>k = false
  | .bl b=>k = b
  | .int i=>k = (i != 0)
  | .str y=>y.length ≤ sizeLine ∧ k = ((y.length:Int) != 0)
  | .byt y=>y.size ≤ sizeLine ∧ k = ((y.size:Int) != 0)
  | .ref p=>(∃ xs,SqL K H p xs ∧ k = !xs.isEmpty) ∨ (∃ xs,SqT K H p xs ∧ k = !xs.isEmpty) ∨ ∃ kvs,H p = some (.dK kvs) ∧ k = !kvs.isEmpty
  | _=>False
theorem isEmpty_kv {κ:Type} {kvs:List (κ × V)} {vs:List (κ × Value)} (r:KV kvs vs):(!vs.isEmpty) = !kvs.isEmpty:=by
  cases r <;> rfl
theorem isEmpty_of {xs:List V} {its:List Value} (r:Vals xs its):(!its.toArray.isEmpty) = !xs.isEmpty:=by
  cases r <;> simp
theorem line63:(sizeLine:Nat) < 2 ^ 63:=by rw [sizeLine_eq]; decide
theorem tru_ok:TruR X (fun x H Q=>∃ k,TruV X.K x H k ∧ Q k H):=by
  intro pins s σ H x v Q I rx h
  obtain ⟨k,e,q⟩:=h
  have hl:=line63
  have hs:sizeLine = 16777216:=sizeLine_eq
  cases x with
  | non =>
    cases rx
    have e':k = false:=e
    subst e'
    exact truthy_none ⟨H,I,q⟩
  | bl b =>
    cases rx
    have e':k = b:=e
    subst e'
    exact wpAny_truthy_bool ⟨H,I,q⟩
  | int i =>
    obtain ⟨t,rfl⟩:=rx
    have e':k = (i != 0):=e
    subst e'
    exact PySem.P.truthy_int ⟨H,I,q⟩
  | str y =>
    obtain ⟨t,rfl⟩:=rx
    obtain ⟨hy,e'⟩:y.length ≤ sizeLine ∧ k = ((y.length:Int) != 0):=e
    subst e'
    exact PySem.P.truthy_str (by omega) ⟨H,I.tok _,q⟩
  | byt y =>
    obtain ⟨t,rfl⟩:=rx
    obtain ⟨hy,e'⟩:y.size ≤ sizeLine ∧ k = ((y.size:Int) != 0):=e
    subst e'
    exact PySem.W.truthy_bytes (by omega) ⟨H,I.tok _,q⟩
  | ref p =>
    cases rx
    have e':(∃ xs,SqL X.K H p xs ∧ k = !xs.isEmpty) ∨ (∃ xs,SqT X.K H p xs ∧ k = !xs.isEmpty) ∨ ∃ kvs,H p = some (.dK kvs) ∧ k = !kvs.isEmpty:=e
    rcases e' with ⟨xs,hx,e'⟩ | ⟨xs,hx,e'⟩ | ⟨kvs,hx,e'⟩
    · subst e'
      obtain ⟨its,r,pl,hz⟩:=I.list hx
      have hlen:=r.length
      exact wpAny_truthy_list pl.isList (by simp only [List.size_toArray]; omega) ⟨H,I.tok _,by rw [isEmpty_of r]; exact q⟩
    · subst e'
      obtain ⟨its,r,pl,hz⟩:=I.tuple hx
      have hlen:=r.length
      exact truthy_tuple pl (by simp only [List.size_toArray]; omega) ⟨H,I.tok _,by rw [isEmpty_of r]; exact q⟩
    · subst e'
      obtain ⟨hz,hS,vs,r,m⟩:kvs.length ≤ sizeLine ∧ (p == sysModules) = false ∧ ∃ vs,KV kvs vs ∧ s.heap.DictOf (mixKind X.prog X.w) p vs:=I.hok p _ hx
      have hlen:kvs.length = vs.length:=Paired.length r
      exact wpAny_truthy_dict hS m (by omega) ⟨H,I.tok _,by rw [isEmpty_kv r]; exact q⟩
  | _=>exact (show False from e).elim
theorem pt_truth (ha:PE X a ta) (he:∀ whole,isTrue a X.env whole = (do let v ← whole; standAt a.pos; holding [v] (truthy v))) :
    PT X a (fun σ H Q=>ta σ H fun x H'=>∃ k,TruV X.K x H' k ∧ Q k H'):=by
  intro pins s σ H Q I h
  exact isTrue_plain (thn (ha pins s σ H _ I h) fun v s1 ⟨x,H1,I1,r1,q1⟩=>tru_ok pins s1 σ H1 x v Q I1 r1 q1) (he _)
theorem op_add_str:OpR X (binaryOp .Add) (fun x y H Q=>∃ i j,x = .str i ∧ y = .str j ∧ i.length + j.length ≤ sizeLine ∧ Q (.str (i ++ j)) H):=by
  intro pins s σ H x y v u Q I rx ry h
  obtain ⟨i,j,rfl,rfl,hz,q⟩:=h
  obtain ⟨t,rfl⟩:=rx
  obtain ⟨t',rfl⟩:=ry
  exact add_str (fun t' tk=>⟨.str (i ++ j),H,I.tok _,⟨_,rfl⟩,q⟩) hz
theorem vals1 {x:V} {us:List Value} (r:Vals [x] us):∃ u,us = [u] ∧ RelV x u:=by
  cases r with
  | cons r1 r2=>cases r2; exact ⟨_,rfl,r1⟩
theorem vals2 {x y:V} {us:List Value} (r:Vals [x,y] us):∃ u w',us = [u,w'] ∧ RelV x u ∧ RelV y w':=by
  cases r with
  | cons r1 r2 =>
    cases r2 with
    | cons r3 r4=>cases r4; exact ⟨_,_,rfl,r1,r3⟩
theorem call_max2 (hc:X.calm = true):CallR X (.builtin "max") (fun xs H Q=>∃ i j,xs = [.int i,.int j] ∧ Q (.int (if j > i then j else i)) H):=by
  intro pins s σ H xs us Q I r h
  obtain ⟨i,j,rfl,q⟩:=h
  obtain ⟨u,w',rfl,⟨t,rfl⟩,⟨t',rfl⟩⟩:=vals2 r
  refine max_two_ints (I.ok.hd hc) fun h' tk k=>⟨_,H,I.kept k,?_,q⟩
  by_cases hj:j > i
  · rw [if_pos hj,if_pos hj]; exact ⟨_,rfl⟩
  · rw [if_neg hj,if_neg hj]; exact ⟨_,rfl⟩
theorem call_min2 (hc:X.calm = true):CallR X (.builtin "min") (fun xs H Q=>∃ i j,xs = [.int i,.int j] ∧ Q (.int (if j < i then j else i)) H):=by
  intro pins s σ H xs us Q I r h
  obtain ⟨i,j,rfl,q⟩:=h
  obtain ⟨u,w',rfl,⟨t,rfl⟩,⟨t',rfl⟩⟩:=vals2 r
  refine min_two_ints (I.ok.hd hc) fun h' tk k=>⟨_,H,I.kept k,?_,q⟩
  by_cases hj:j < i
  · rw [if_pos hj,if_pos hj]; exact ⟨_,rfl⟩
  · rw [if_neg hj,if_neg hj]; exact ⟨_,rfl⟩
end
end L2
namespace L2
open PySem PySem.Spec PyProof.Rows
structure ObjM (h:Heap) (x dx C:Addr) (mA:Str → Option Value):Prop where
  obj:h.get? x = some (PySem.W.instObj C dx)
  ns:h.Ns1 dx mA
  ne:dx ≠ x
theorem lookIn_ns {h:Heap} {dx:Addr} {mA:Str → Option Value} (n:h.Ns1 dx mA):∃ od,h.get? dx = some od ∧ ∀ name,PySem.W.lookIn name od = some (mA name):=by
  obtain ⟨o,es,ep,ho,hd,hk,_,hm⟩:=n
  refine ⟨o,ho,fun name=>?_⟩
  have e:=hm name
  unfold nsFind findBy at e
  rw [← Array.find?_toList] at e
  unfold PySem.W.lookIn
  rw [hd]
  dsimp only
  split
  · rename_i y q
    rw [q] at e
    exact congrArg some e
  · rename_i q
    rw [q] at e
    have a:es.toList.any (·.refKey) = false:=by
      rw [List.any_eq_false]
      intro y hy
      obtain ⟨z,t,hkey⟩:=hk y (Array.mem_toList_iff.mp hy)
      simp [DictEntry.refKey,hkey]
    have a':¬ es.toList.any (·.refKey) = true:=by rw [a]; exact Bool.false_ne_true
    rw [if_neg a']
    exact congrArg some e
theorem ObjM.look {h:Heap} {x dx C:Addr} {mA:Str → Option Value} (I:ObjM h x dx C mA):∃ od,PySem.W.InstAt h x (PySem.W.instObj C dx) C (some od) ∧ ∀ name,PySem.W.lookIn name od = some (mA name) :=
  let ⟨od,ho,hl⟩:=lookIn_ns I.ns
  ⟨od,⟨I.obj,rfl,rfl,ho⟩,hl⟩
section
variable {prog:Program} {w:World} {A:Around} {E:Value → Shared → Prop} {s:Shared} {K:PySem.W.Frag} {x dx C f:Addr} {mA:Str → Option Value} {name:Str} {v:Value}
theorem get_map {expr:Bool} {Q:Value → Shared → Prop} (X:K.In s.heap) (I:ObjM s.heap x dx C mA) (hg:PySem.W.plainGet K C name = true) (hh:PySem.W.hasDictIn K C = true)
    (ha:PySem.W.findIn K (.ref C) name = some none) (hv:mA name = some v) (hv':PySem.W.handedIn v = true) (h:Q v { s with toks:=s.toks + 1 }) :
    wpAny (model prog w) A (getAttr (.ref x) name expr) Q E s:=by
  obtain ⟨od,J,hl⟩:=I.look
  exact PySem.W.get_value X J (PySem.W.plainGet_of hg).1 (PySem.W.findObj_own hh ha rfl (by rw [hl,hv])) hv' h
theorem get_meth {pl:Sem Bool} {Q:Value × List Value → Shared → Prop} (X:K.In s.heap) (I:ObjM s.heap x dx C mA) (hg:PySem.W.plainGet K C name = true)
    (hf:PySem.W.findIn K (.ref C) name = some (some (.ref f))) (ht:PySem.W.isFn K (.ref f) = true) (hv:mA name = none) (h:Q (.ref f,[.ref x]) s) :
    wpAny (model prog w) A (getMethod (.ref x) name pl) Q E s:=by
  obtain ⟨od,J,hl⟩:=I.look
  exact PySem.W.method_fn X J (PySem.W.plainGet_of hg).1 (PySem.W.plainGet_of hg).2 hf (beq_iff_eq.mp ht) (by show (PySem.W.lookIn name od).map (·.isSome) = some false; rw [hl,hv]; rfl) h
theorem set_map {ns:List Str} {Q:Unit → Shared → Prop} (X:K.In s.heap) (I:ObjM s.heap x dx C mA)
    (hs:PySem.W.findIn K (.ref C) "__setattr__" = some (some (.builtin "object.__setattr__"))) (hp:PySem.W.plainOver K C = true) (ht:PySem.W.takerIn K C name = some none) (hh:PySem.W.hasDictIn K C = true)
    (hw:PySem.Within mA ns) (hsz:ns.length ≤ sizeLine)
    (h:∀ h',ObjM h' x dx C (fun y=>if y = name then some v else mA y) → Heap.SameBut dx s.heap h' → Q () { s with heap:=h',toks:=s.toks + 2 }) :
    wpAny (model prog w) A (setAttr (.ref x) name v) Q E s:=by
  obtain ⟨od,J,hl⟩:=I.look
  refine PySem.W.set_plain X J hs (PySem.W.osa_open (s:={ s with toks:=s.toks + 1 }) (r:=none) X J hp ht fun b=>?_)
  obtain ⟨cd,hc,hd'⟩:=PySem.W.any_some hh
  have hx:s.heap.get? x = some ⟨.ref C,some dx,.plain,#[]⟩:=I.obj
  refine wpAny_bind (wpAny_pure (wpAny_bind (wpAny_bind (wpAny_loadPart hx (wpAny_bind (PySem.W.Looks.here (s:={ s with toks:=s.toks + 1 }) (PySem.W.looks_clsIn X hc) ?_))))))
  rw [hd']
  refine wpAny_pure (a:=some dx) (wpAny_bind (wpAny_pure (wpAny_bind ?_)))
  refine wpAny_nsSet1 (s:={ s with toks:=s.toks + 1 }) I.ns fun h' hn2 hs2=>?_
  obtain ⟨oD,esD,epD,hoD,hdD,hcD⟩:=hn2.count (PySem.Within.cons name v hw)
  refine wpAny_bind (wpAny_lookBehind hoD (by rw [hdD]; exact pastItsLine_dict (Nat.le_trans hcD (by rw [List.length_cons]; omega))) ?_)
  exact wpAny_pure (h _ ⟨(hs2.2 _ (Ne.symm I.ne)).trans I.obj,hn2,I.ne⟩ hs2)
theorem make_map {R:Result → Shared → Prop} {vs:List Value} {kw:List (Str × Value)} (X:K.In s.heap) (hm:PySem.W.makesIn K C = true)
    (hi:PySem.W.findIn K (.ref C) "__init__" = some (some (.ref f))) (hf:PySem.W.typeIn K (.ref f) = some (.type "function"))
    (h:codeAny (model prog w) (A.under (.builtin "type.__call__" ⟨.ref C :: vs,kw⟩)) (.call (.ref f) ⟨.ref (s.heap.objs.size + 1) :: vs,kw⟩) (PySem.W.InitBack (s.heap.objs.size + 1) R)
      { s with heap:=(s.heap.push PySem.W.emptyDict).push (PySem.W.instObj C s.heap.objs.size) }) :
    codeAny (model prog w) A (.call (.ref C) ⟨vs,kw⟩) R s:=by
  obtain ⟨hh,g,d,t,os⟩:=s
  exact PySem.W.make_core (PySem.W.makes_of X hm) (PySem.W.looks_findIn X hi) (fun self=>PySem.W.bind_fn X self hf) (.inl rfl) h
end
def putF (f:Str) (v:V):List (Str × V) → List (Str × V)
  | []=>[(f,v)]
  | (g,x) :: r=>if g = f then (g,v) :: r else (g,x) :: putF f v r
theorem lookup_putF (f g:Str) (v:V):∀ fs:List (Str × V),(putF f v fs).lookup g = if g = f then some v else fs.lookup g
  | []=>by
    show List.lookup g [(f,v)] = _
    by_cases h:g = f
    · have hb:(g == f) = true:=beq_iff_eq.mpr h
      simp only [List.lookup,hb,if_pos h]
    · have hb:(g == f) = false:=beq_eq_false_iff_ne.mpr h
      simp only [List.lookup,hb,if_neg h]
  | (k,x) :: r=>by
    have ih:=lookup_putF f g v r
    rw [show putF f v ((k,x) :: r) = (if k = f then (k,v) :: r else (k,x) :: putF f v r) from rfl]
    by_cases hk:k = f
    · rw [if_pos hk]
      by_cases h:g = k
      · have hb:(g == k) = true:=beq_iff_eq.mpr h
        simp only [List.lookup,hb,if_pos (h.trans hk)]
      · have hb:(g == k) = false:=beq_eq_false_iff_ne.mpr h
        simp only [List.lookup,hb,if_neg (fun e:g = f=>h (e.trans hk.symm))]
    · rw [if_neg hk]
      by_cases h:g = k
      · have hb:(g == k) = true:=beq_iff_eq.mpr h
        simp only [List.lookup,hb,if_neg (fun e:g = f=>hk (h.symm.trans e))]
      · have hb:(g == k) = false:=beq_eq_false_iff_ne.mpr h
        simp only [List.lookup,hb]
        exact ih
theorem keys_putF (f:Str) (v:V):∀ fs:List (Str × V),f ∈ (putF f v fs).map (·.1) ∧ ∀ g,g ∈ fs.map (·.1) → g ∈ (putF f v fs).map (·.1)
  | []=>⟨by simp [putF],fun g h=>by simp at h⟩
  | (k,x) :: r=>by
    obtain ⟨i1,i2⟩:=keys_putF f v r
    rw [show putF f v ((k,x) :: r) = (if k = f then (k,v) :: r else (k,x) :: putF f v r) from rfl]
    by_cases hk:k = f
    · rw [if_pos hk]
      subst hk
      exact ⟨by simp,fun g h=>by simpa using h⟩
    · rw [if_neg hk]
      refine ⟨?_,fun g h=>?_⟩
      · rw [List.map_cons]
        exact List.mem_cons_of_mem _ i1
      · rw [List.map_cons] at h ⊢
        rcases List.mem_cons.mp h with e | e
        · exact List.mem_cons.mpr (.inl e)
        · exact List.mem_cons_of_mem _ (i2 g e)
theorem length_putF (f:Str) (v:V):∀ fs:List (Str × V),(putF f v fs).length ≤ fs.length + 1
  | []=>by simp [putF]
  | (k,x) :: r=>by
    have ih:=length_putF f v r
    rw [show putF f v ((k,x) :: r) = (if k = f then (k,v) :: r else (k,x) :: putF f v r) from rfl]
    by_cases hk:k = f
    · rw [if_pos hk,List.length_cons,List.length_cons]; omega
    · rw [if_neg hk,List.length_cons,List.length_cons]; omega
theorem RelO.some_of {v:V} {o:Option Value} (r:RelO (some v) o):∃ u,o = some u ∧ RelV v u:=by
  cases o with
  | none=>exact (show False from r).elim
  | some u=>exact ⟨u,rfl,r⟩
theorem RelO.none_of {o:Option Value} (r:RelO none o):o = none:=by
  cases o with
  | none=>rfl
  | some u=>exact (show False from r).elim
theorem handed_of {v:V} {u:Value} (r:RelV v u):PySem.W.handedIn u = true:=by
  cases v with
  | non=>cases (show u = Value.none from r); rfl
  | bl b=>cases (show u = Value.bool b from r); rfl
  | int i=>obtain ⟨t,e⟩:=(show ∃ t,u = Value.int i t from r); cases e; rfl
  | str x=>obtain ⟨t,e⟩:=(show ∃ t,u = Value.str x t from r); cases e; rfl
  | byt b=>obtain ⟨t,e⟩:=(show ∃ t,u = Value.bytes b t from r); cases e; rfl
  | flt b=>obtain ⟨t,e⟩:=(show ∃ t,u = Value.float b t from r); cases e; rfl
  | ref a=>cases (show u = Value.ref a from r); rfl
  | ty n=>cases (show u = Value.type n from r); rfl
section
variable {P:Program} {w:World} {H H':Hp} {h h':Heap} {a C dx:Addr} {fs fs':List (Str × V)}
theorem ins_get (hok:HOk P w H h) (e:H a = some (.ins C dx fs)):∃ mA,ObjM h a dx C mA ∧ (∀ f,RelO (fs.lookup f) (mA f)) ∧ PySem.Within mA (fs.map (·.1)) ∧ fs.length ≤ 1000 ∧ H dx = some (.own a):=by
  obtain ⟨d,z,ne,ob,mA,n,r,q⟩:=(show ObjOk P w H h a (.ins C dx fs) from hok a _ e)
  exact ⟨mA,⟨ob,n,ne⟩,r,q,z,d⟩
end
structure Cls (K:PySem.W.Frag) (C:Addr):Prop where
  pg:PySem.W.plainGet K C Str.empty = true
  hd:PySem.W.hasDictIn K C = true
  po:PySem.W.plainOver K C = true
  sa:PySem.W.findIn K (.ref C) "__setattr__" = some (some (.builtin "object.__setattr__"))
theorem Cls.get {K:PySem.W.Frag} {C:Addr} (c:Cls K C) (f:Str):PySem.W.plainGet K C f = true:=c.pg
def NoAttr (K:PySem.W.Frag) (C:Addr) (f:Str):Prop:=PySem.W.findIn K (.ref C) f = some none
theorem NoAttr.taker {K:PySem.W.Frag} {C:Addr} {f:Str} (n:NoAttr K C f):PySem.W.takerIn K C f = some none:=by
  unfold PySem.W.takerIn
  rw [show PySem.W.findIn K (.ref C) f = some none from n]
  rfl
structure Con (K:PySem.W.Frag) (C:Addr) (f:Str) (v:V) (u:Value):Prop where
  at_:PySem.W.findIn K (.ref C) f = some (some u)
  rel:RelV v u
  get:PySem.W.specialIn K u "__get__" = some none
  cp:PySem.W.copiedNames.contains f = false
structure Meth (K:PySem.W.Frag) (C:Addr) (m:Str) (f:Addr):Prop where
  at_:PySem.W.findIn K (.ref C) m = some (some (.ref f))
  fn:PySem.W.isFn K (.ref f) = true
  kp:PySem.W.keepIn K (.ref f) = true
section
variable {X:Cx} {pins:List (Addr × Obj)} {σ:St} {H:Hp} {s:Shared} {a C dx:Addr} {fs:List (Str × V)} {f:Str} {v:V} {A:Around} {E:Value → Shared → Prop}
theorem getattr_ok {b:Bool} {Q:Value → Shared → Prop} (I:Inv X pins σ H s) (e:H a = some (.ins C dx fs)) (c:Cls X.K C) (n:NoAttr X.K C f) (l:fs.lookup f = some v)
    (h:∀ u s',Inv X pins σ H s' → RelV v u → Q u s'):wpAny (model X.prog X.w) A (getAttr (.ref a) f b) Q E s:=by
  obtain ⟨mA,O,r,_,_,_⟩:=ins_get I.hok e
  obtain ⟨u,hu,ru⟩:=RelO.some_of (v:=v) (o:=mA f) (by rw [← l]; exact r f)
  exact get_map I.kIn O (c.get f) c.hd n hu (handed_of ru) (h u _ (I.tok _) ru)
theorem getmeth_ok {m:Str} {g:Addr} {pl:Sem Bool} {Q:Value × List Value → Shared → Prop} (I:Inv X pins σ H s) (e:H a = some (.ins C dx fs)) (c:Cls X.K C) (k:Meth X.K C m g) (l:fs.lookup m = none)
    (h:Q (.ref g,[.ref a]) s):wpAny (model X.prog X.w) A (getMethod (.ref a) m pl) Q E s:=by
  obtain ⟨mA,O,r,_,_,_⟩:=ins_get I.hok e
  have hn:mA m = none:=RelO.none_of (by rw [← l]; exact r m)
  exact get_meth I.kIn O (c.get m) k.at_ k.fn hn h
theorem setattr_ok {y:V} {u:Value} {Q:Unit → Shared → Prop} (I:Inv X pins σ H s) (e:H a = some (.ins C dx fs)) (c:Cls X.K C) (n:NoAttr X.K C f) (hl:fs.length < 1000) (ry:RelV y u)
    (h:∀ s',Inv X pins σ (upd H a (.ins C dx (putF f y fs))) s' → Q () s'):wpAny (model X.prog X.w) A (setAttr (.ref a) f u) Q E s:=by
  obtain ⟨mA,O,r,wi,_,ho⟩:=ins_get I.hok e
  have hz:(fs.map (·.1)).length ≤ sizeLine:=by rw [List.length_map,sizeLine_eq]; omega
  refine set_map I.kIn O c.sa c.po n.taker c.hd wi hz fun h' O' sb=>h _ ?_
  have hd:∃ o,h'.get? dx = some o:=let ⟨o,_,_,e',_⟩:=O'.ns; ⟨o,e'⟩
  refine I.write (x:=a) (e:=dx) (by rw [e]; exact True.intro) (.inr ho) (fun b q hb z=>(sb.2 b hb).trans z) hd ?_
  refine ⟨by rw [upd_ne O.ne]; exact ho,?_,O.ne,O'.obj,_,O'.ns,fun g=>?_,fun g hg=>?_⟩
  · have:=length_putF f y fs; omega
  · show RelO ((putF f y fs).lookup g) (if g = f then some u else mA g)
    rw [lookup_putF]
    by_cases q:g = f
    · rw [if_pos q,if_pos q]; exact ry
    · rw [if_neg q,if_neg q]; exact r g
  · by_cases q:g = f
    · rw [q]; exact (keys_putF f y fs).1
    · refine (keys_putF f y fs).2 g (wi g fun z=>hg ?_)
      show (if g = f then some u else mA g) = none
      rw [if_neg q]; exact z
theorem Inv.made (I:Inv X pins σ H s):Inv X pins σ (upd (upd H s.heap.objs.size (.own (s.heap.objs.size + 1))) (s.heap.objs.size + 1) (.ins C s.heap.objs.size []))
    { s with heap:=(s.heap.push PySem.W.emptyDict).push (PySem.W.instObj C s.heap.objs.size) }:=by
  have e1:(s.heap.push PySem.W.emptyDict).get? s.heap.objs.size = some PySem.W.emptyDict:=Heap.get?_push_size s.heap rfl
  have e2:((s.heap.push PySem.W.emptyDict).push (PySem.W.instObj C s.heap.objs.size)).get? (s.heap.objs.size + 1) = some (PySem.W.instObj C s.heap.objs.size):=by
    have:=Heap.get?_push_size (s.heap.push PySem.W.emptyDict) (o:=PySem.W.instObj C s.heap.objs.size) rfl
    rwa [Heap.size_push] at this
  have e3:(s.heap.push PySem.W.emptyDict).Ns s.heap.objs.size (fun _=>none):=⟨PySem.W.emptyDict,#[],_,e1,rfl,(fun e he=>absurd he (by simp)),fun _=>rfl⟩
  have I1:=I.laid (a:=s.heap.objs.size) (o:=.own (s.heap.objs.size + 1)) (h':=s.heap.push PySem.W.emptyDict) (t':=s.toks) (fun b u q=>Heap.get?_push_of_some _ q) (Nat.le_refl _) ⟨_,e1⟩
  refine I1.laid (a:=s.heap.objs.size + 1) (o:=.ins C s.heap.objs.size []) (t':=s.toks) (fun b u q=>Heap.get?_push_of_some _ q) (Nat.le_of_eq (Heap.size_push _ _)) ?_
  have ne:s.heap.objs.size ≠ s.heap.objs.size + 1:=Nat.ne_of_lt (Nat.lt_succ_self _)
  refine ⟨by rw [upd_ne ne,upd_same],Nat.zero_le _,ne,e2,fun _=>none,(Heap.Ns1.of_empty e3).at fun o q=>Heap.get?_push_of_some _ q,fun _=>True.intro,fun y hy=>absurd rfl hy⟩
theorem attr_of {prog:Program} {w:World} {env:Env} {e:Expr} {f:Str} {pos:Pos} {s:Shared} {Q:Value → Shared → Prop} (hb:attributeBase e f env (eval e env) = eval e env)
    (h:wpAny (model prog w) A (eval e env) (fun o s₁=>wpAny (model prog w) A (getAttr o f true) Q E s₁) E s):wpAny (model prog w) A (eval (.Attribute e f pos) env) Q E s :=
  Attribute_any_ h (by rw [arm_eval_Attribute,hb])
end
def tFld (K:PySem.W.Frag) (ta:TE) (f:Str):TE:=fun σ H Q=>ta σ H fun x H1=>∃ a C dx fs v,x = .ref a ∧ H1 a = some (.ins C dx fs) ∧ Cls K C ∧ NoAttr K C f ∧ fs.lookup f = some v ∧ Q v H1
def sFld (K:PySem.W.Frag) (ta tv:TE) (f:Str):TS:=fun D σ H=>tv σ H fun y H1=>ta σ H1 fun x H2=>∃ a C dx fs,x = .ref a ∧ H2 a = some (.ins C dx fs) ∧ Cls K C ∧ NoAttr K C f ∧ fs.length < 1000 ∧
  D.nx σ (upd H2 a (.ins C dx (putF f y fs)))
section
variable {X:Cx} {o e value:Expr} {f:Str} {pos pos' tpos:Pos} {ta tv:TE}
theorem pe_fld (he:PE X e ta) (hb:attributeBase e f X.env (eval e X.env) = eval e X.env):PE X (.Attribute e f pos) (tFld X.K ta f):=by
  intro pins s σ H Q I h
  refine attr_of hb (thn (he pins s σ H _ I h) fun u s1 ⟨x,H1,I1,rx,a,C,dx,fs,v,ex,ea,c,n,l,q⟩=>?_)
  subst ex
  obtain rfl:u = Value.ref a:=rx
  exact getattr_ok I1 ea c n l fun u' s2 I2 ru=>⟨v,H1,I2,ru,q⟩
theorem ps_fld (ha:PE X o ta) (hv:PE X value tv) (hs:swapsWith value (some (.Attribute o f pos')) pos.line X.env = pure false):PS X (.Assign [.Attribute o f pos'] value pos) (sFld X.K ta tv f):=by
  intro pins s σ H D I h
  refine plainObj_wpAny_Assign_Attribute (thn (hv pins s σ H _ I h) fun u s1 ⟨y,H1,I1,ry,q⟩=>thn (ha pins s1 σ H1 _ I1 q) fun ov s2 ⟨x,H2,I2,rx,a,C,dx,fs,ex,ea,c,n,l,q2⟩=>?_) hs
  subst ex
  obtain rfl:ov = Value.ref a:=rx
  exact setattr_ok I2 ea c n l ry fun s3 I3=>⟨σ,_,I3,q2⟩
end
section
variable {X:Cx} {pins:List (Addr × Obj)} {σ:St} {H:Hp} {s:Shared} {A:Around} {E:Value → Shared → Prop} {Q:Value → Shared → Prop} {c:Value} {b:Bool}
inductive TyOf (K:PySem.W.Frag) (H:Hp):V → Value → Prop where
  | non:TyOf K H .non (.type "NoneType")
  | bl (x:Bool):TyOf K H (.bl x) (.type "bool")
  | int (i:Int):TyOf K H (.int i) (.type "int")
  | str (x:Str):TyOf K H (.str x) (.type "str")
  | flt (x:UInt64):TyOf K H (.flt x) (.type "float")
  | lst {a:Addr} {xs:List V} (e:H a = some (.lst xs)):TyOf K H (.ref a) (.type "list")
  | frz {a:Addr} {o:Obj} {xs:List V} (e:H a = some (.frz o (.lst xs))):TyOf K H (.ref a) (.type "list")
  | tup {a:Addr} {xs:List V} (e:H a = some (.tup xs)):TyOf K H (.ref a) (.type "tuple")
  | dK {a:Addr} {kvs:List (Key × V)} (e:H a = some (.dK kvs)):TyOf K H (.ref a) (.type "dict")
  | dT {a:Addr} {kvs:List (List Key × V)} (e:H a = some (.dT kvs)):TyOf K H (.ref a) (.type "dict")
  | ins {a C dx:Addr} {fs:List (Str × V)} (e:H a = some (.ins C dx fs)) (cl:Cls K C) (ha:PySem.W.findIn K (.ref C) "__class__" = some (some (.builtin "object.__class__")))
      (hn:PySem.W.specialIn K (.builtin "object.__class__") "__get__" = some (some (.builtin "getset_descriptor.__get__"))) (htk:PySem.W.takesIn K (.builtin "object.__class__") = some true)
      (hm:PySem.W.mroIn K C (.type "object") = some true):TyOf K H (.ref a) (.ref C)
theorem isinst_ok {x:V} {u t:Value} (I:Inv X pins σ H s) (rx:RelV x u) (ty:TyOf X.K H x t) (e:PySem.W.kitOne X.K t c = some b) (h:∀ tk,Q (.bool b) { s with toks:=tk }) :
    wpAny (model X.prog X.w) A (call (.builtin "isinstance") [u,c]) Q E s:=by
  cases ty with
  | non=>cases (show u = Value.none from rx); exact PySem.W.kia_one PySem.W.kitx_none I.kIn True.intro e (fun z=>nomatch z) h
  | bl y=>cases (show u = Value.bool y from rx); exact PySem.W.kia_one PySem.W.kitx_bool I.kIn True.intro e (fun z=>nomatch z) h
  | int i=>obtain ⟨t,q⟩:=(show ∃ t,u = Value.int i t from rx); cases q; exact PySem.W.kia_one PySem.W.kitx_int I.kIn True.intro e (fun z=>nomatch z) h
  | str y=>obtain ⟨t,q⟩:=(show ∃ t,u = Value.str y t from rx); cases q; exact PySem.W.kia_one PySem.W.kitx_str I.kIn True.intro e (fun z=>nomatch z) h
  | flt y=>obtain ⟨t,q⟩:=(show ∃ t,u = Value.float y t from rx); cases q; exact PySem.W.kia_one PySem.W.kitx_float I.kIn True.intro e (fun z=>nomatch z) h
  | @lst a xs ea =>
    cases (show u = Value.ref a from rx)
    obtain ⟨_,_,n,_,h1⟩:=(show ObjOk X.prog X.w H s.heap a (.lst xs) from I.hok a _ ea)
    exact PySem.W.kia_one PySem.W.kitx_list I.kIn ⟨_,h1,rfl⟩ e (fun z=>nomatch z) h
  | @frz a ob xs ea =>
    cases (show u = Value.ref a from rx)
    obtain ⟨_,_,_,n,_,h1⟩:=(show ObjOk X.prog X.w H s.heap a (.frz ob (.lst xs)) from I.hok a _ ea)
    exact PySem.W.kia_one PySem.W.kitx_list I.kIn ⟨_,h1,rfl⟩ e (fun z=>nomatch z) h
  | @tup a xs ea =>
    cases (show u = Value.ref a from rx)
    obtain ⟨_,_,_,p⟩:=(show ObjOk X.prog X.w H s.heap a (.tup xs) from I.hok a _ ea)
    obtain ⟨o,h1,h2,_⟩:=p
    exact PySem.W.kia_one PySem.W.kitx_tuple I.kIn ⟨o,h1,h2⟩ e (fun z=>nomatch z) h
  | @dK a kvs ea =>
    cases (show u = Value.ref a from rx)
    obtain ⟨_,_,vs,_,p⟩:=(show ObjOk X.prog X.w H s.heap a (.dK kvs) from I.hok a _ ea)
    obtain ⟨o,es,ep,h1,h2,_⟩:=p
    exact PySem.W.kia_one PySem.W.kitx_dict I.kIn ⟨o,h1,h2.1⟩ e (fun z=>nomatch z) h
  | @dT a kvs ea =>
    cases (show u = Value.ref a from rx)
    obtain ⟨_,_,xs,_,o,es,ep,h1,h2,_⟩:=(show ObjOk X.prog X.w H s.heap a (.dT kvs) from I.hok a _ ea)
    exact PySem.W.kia_one PySem.W.kitx_dict I.kIn ⟨o,h1,h2.1⟩ e (fun z=>nomatch z) h
  | @ins a C dx fs ea cl ha hn htk hm =>
    cases (show u = Value.ref a from rx)
    obtain ⟨mA,O,_⟩:=ins_get I.hok ea
    obtain ⟨od,J,_⟩:=O.look
    exact PySem.W.kia_one (PySem.W.kitx_own (cl.get _) cl.hd ha hn htk hm) I.kIn J e (fun z=>nomatch z) h
end
end L2
namespace L2
open PySem PySem.Spec PyProof.Rows
structure Room (k:Nat) (A:Around):Prop where
  hd:A.handled = none
  dp:A.depth + 3 * k + 5 < recursionLimit
  un:A.units + 16 * k + 200 < cLine
theorem Room.mono {j k:Nat} {A:Around} (r:Room k A) (h:j ≤ k):Room j A:=⟨r.hd,by have:=r.dp; omega,by have:=r.un; omega⟩
theorem Room.deeper {k:Nat} {A:Around} (r:Room (k + 1) A) (env:Env):Room k (A.deeper env) :=
  ⟨r.hd,by have:=r.dp; show A.depth + 1 + 3 * k + 5 < _; omega,by have:=r.un; show A.units + 3 + 16 * k + 200 < _; omega⟩
theorem Room.in1 {k:Nat} {A:Around} (r:Room (k + 1) A):Room k A.in1 :=
  ⟨r.hd,by have:=r.dp; show A.depth + 3 * k + 5 < _; omega,by have:=r.un; show A.units + 1 + 16 * k + 200 < _; omega⟩
theorem make_depth {A:Around} {C:Addr} {us:List Value} {kw:List (Str × Value)}:(A.under (.builtin "type.__call__" ⟨.ref C :: us,kw⟩)).depth = A.depth + 1:=by
  first | rfl | simp [Around.under,Code.weight,Code.isCreation,Code.isGuard,Code.isCaller,Code.frames,Code.isFrame,guardIds]
theorem make_units {A:Around} {C:Addr} {us:List Value} {kw:List (Str × Value)}:(A.under (.builtin "type.__call__" ⟨.ref C :: us,kw⟩)).units = A.units + 1:=by
  first | rfl | simp [Around.under,Code.cUnits,Code.frames,Code.isFrame]
theorem Room.make {k:Nat} {A:Around} (r:Room (k + 1) A) (C:Addr) (us:List Value) (kw:List (Str × Value)):Room k (A.under (.builtin "type.__call__" ⟨.ref C :: us,kw⟩)) :=
  ⟨r.hd,by have:=r.dp; rw [make_depth]; omega,by have:=r.un; rw [make_units]; omega⟩
theorem Room.depth {k:Nat} {A:Around} (r:Room k A):A.depth < recursionLimit:=by have:=r.dp; omega
theorem Room.units {k:Nat} {A:Around} (r:Room k A):A.units + 64 < cLine:=by have:=r.un; omega
def tNil:TA:=fun _ H Q=>Q [] H
def tCons (ta:TE) (tr:TA):TA:=fun σ H Q=>ta σ H fun x H1=>tr σ H1 fun xs H2=>Q (x :: xs) H2
section
variable {X:Cx} {e:Expr} {es:List Expr} {te:TE} {t:TA} {pos:Pos}
theorem pa_nil:PA X [] tNil:=fun _ _ _ _ H Q I h=>Calls.spliced_nil ⟨[],H,I,.nil,h⟩
theorem pa_cons (ha:PE X e te) (hr:PA X es t) (hs:starEach (e :: es) X.env = (false,eval e X.env) :: starEach es X.env:=by rfl):PA X (e :: es) (tCons te t):=by
  intro pos pins s σ H Q I h
  rw [hs]
  show wpAny _ _ (spliced ((false,eval e X.env) :: backTo pos (starEach es X.env))) _ _ s
  refine Calls.spliced_cons (thn (ha pins s σ H _ I h) fun u s1 ⟨x,H1,I1,r1,q1⟩=>?_)
  exact thn (hr pos pins s1 σ H1 _ I1 q1) fun us s2 ⟨xs,H2,I2,r2,q2⟩=>⟨x :: xs,H2,I2,.cons r1 r2,q2⟩
def tTup (t:TA):TE:=fun σ H Q=>t σ H fun xs H1=>xs.length ≤ sizeLine ∧ ∀ p,H1 p = none → Q (.ref p) (upd H1 p (.tup xs))
def tLst (t:TA):TE:=fun σ H Q=>t σ H fun xs H1=>xs.length ≤ sizeLine ∧ ∀ p,H1 p = none → Q (.ref p) (upd H1 p (.lst xs))
theorem pe_tup {x1} (h:PA X es t):PE X (.Tuple es x1 pos) (tTup t):=by
  intro pins s σ H Q I hq
  refine wpAny_Tuple_spliced (thn (h pos pins s σ H _ I hq) fun us s1 ⟨xs,H1,I1,r,z,q⟩=>⟨by rw [← r.length]; exact z,?_⟩)
  have hf:H1 s1.heap.objs.size = none:=I1.hok.fresh (Nat.le_refl _)
  refine ⟨.ref s1.heap.objs.size,upd H1 s1.heap.objs.size (.tup xs),I1.laid (t':=s1.toks) (fun b u e=>Heap.get?_push_of_some _ e) (Nat.le_refl _) ?_,rfl,q _ hf⟩
  exact ⟨z,us,r,⟨_,Heap.get?_push_size _ rfl,rfl,_,rfl⟩⟩
theorem pe_lst (h:PA X es t):PE X (.List es pos) (tLst t):=by
  intro pins s σ H Q I hq
  refine wpAny_List_spliced (thn (h pos pins s σ H _ I hq) fun us s1 ⟨xs,H1,I1,r,z,q⟩=>⟨by rw [← r.length]; exact z,?_⟩)
  have hf:H1 s1.heap.objs.size = none:=I1.hok.fresh (Nat.le_refl _)
  refine ⟨.ref s1.heap.objs.size,upd H1 s1.heap.objs.size (.lst xs),I1.laid (t':=s1.toks) (fun b u e=>Heap.get?_push_of_some _ e) (Nat.le_refl _) ?_,rfl,q _ hf⟩
  exact ⟨z,us,0,r,Heap.get?_push_size _ rfl⟩
end
abbrev Sp:=List V → Hp → VK → XK → Prop
abbrev CXT:=List Env → Hp → Shared → XK → Value → Shared → Prop
structure Env0 (P:Program) (w:World) (K:PySem.W.Frag) (mg:Str → Option Value) (base:Heap) (A:Around) (outer:List Env) (s:Shared) (H:Hp):Prop where
  frames:A.frames = some outer
  mod:Mod K mg base
  bs:∀ b o,base.get? b = some o → s.heap.get? b = some o ∧ H b = none
  bsz:base.objs.size ≤ s.heap.objs.size
  funs:s.heap.FunFrames base outer
  frf:∀ b ∈ frs outer,H b = none
  hok:HOk P w H s.heap
  bare:AllBare s.gens
def CE (outer:List Env) (P:Program) (w:World) (H:Hp) (s:Shared) (Q:VK) (u:Value) (s':Shared):Prop :=
  ∃ v H',s'.os = s.os ∧ AllBare s'.gens ∧ Un (frs outer) [] H H' s.heap s'.heap ∧ HOk P w H' s'.heap ∧ RelV v u ∧ Q v H'
def CR (CX:CXT) (outer:List Env) (P:Program) (w:World) (H:Hp) (s:Shared) (Q:VK) (E:XK) (r:Result) (s':Shared):Prop :=
  match r with
  | .ok (.ret u)=>CE outer P w H s Q u s'
  | .ok _=>False
  | .error e=>CX outer H s E e s'
structure FnOk (P:Program) (w:World) (K:PySem.W.Frag) (mg:Str → Option Value) (base:Heap) (CX:CXT) (k:Nat) (f:Addr) (fd:FuncData) (ps:List Str) (sp:Sp):Prop where
  len:∀ vs H Q E,sp vs H Q E → vs.length = ps.length
  run:∀ (A:Around) (outer:List Env) (s:Shared) (H:Hp) (args:Args) (us:List Value) (vs:List V) (Q:VK) (E:XK),Room k A → Env0 P w K mg base A outer s H → BindsTo s fd args (ps.zip us) → Vals vs us → sp vs H Q E →
    codeAny (model P w) A (.call (.ref f) args) (CR CX outer P w H s Q E) s
theorem FnOk.mono {P:Program} {w:World} {K:PySem.W.Frag} {mg:Str → Option Value} {base:Heap} {CX:CXT} {j k:Nat} {f:Addr} {fd:FuncData} {ps:List Str} {sp:Sp} (F:FnOk P w K mg base CX j f fd ps sp) (h:j ≤ k) :
    FnOk P w K mg base CX k f fd ps sp:=⟨F.len,fun A outer s H args us vs Q E hr=>F.run A outer s H args us vs Q E (hr.mono h)⟩
theorem FnOk.imp {P:Program} {w:World} {K:PySem.W.Frag} {mg:Str → Option Value} {base:Heap} {CX:CXT} {k:Nat} {f:Addr} {fd:FuncData} {ps:List Str} {sp sp':Sp} (F:FnOk P w K mg base CX k f fd ps sp)
    (h:∀ vs H Q E,sp' vs H Q E → sp vs H Q E):FnOk P w K mg base CX k f fd ps sp' :=
  ⟨fun vs H Q E q=>F.len vs H Q E (h _ _ _ _ q),fun A outer s H args us vs Q E hr he hb hv hs=>F.run A outer s H args us vs Q E hr he hb hv (h _ _ _ _ hs)⟩
theorem Env0.make {P:Program} {w:World} {K:PySem.W.Frag} {mg:Str → Option Value} {base:Heap} {A:Around} {outer:List Env} {s:Shared} {H:Hp} (e:Env0 P w K mg base A outer s H) (C:Addr) (us:List Value) (kw:List (Str × Value)) :
    Env0 P w K mg base (A.under (.builtin "type.__call__" ⟨.ref C :: us,kw⟩)) outer s H:=⟨by first | exact e.frames | (simpa [Around.under,Code.envs,Code.isFrame,pushEnvs] using e.frames),e.mod,e.bs,e.bsz,e.funs,e.frf,e.hok,e.bare⟩
theorem Env0.in1 {P:Program} {w:World} {K:PySem.W.Frag} {mg:Str → Option Value} {base:Heap} {A:Around} {outer:List Env} {s:Shared} {H:Hp} (e:Env0 P w K mg base A outer s H) :
    Env0 P w K mg base A.in1 outer s H:=⟨e.frames,e.mod,e.bs,e.bsz,e.funs,e.frf,e.hok,e.bare⟩
section
variable {X:Cx} {pins:List (Addr × Obj)} {σ:St} {H:Hp} {s s':Shared}
theorem Inv.env0 (I:Inv X pins σ H s):Env0 X.prog X.w X.K X.mg X.base X.A X.stack s H :=
  ⟨I.ok.frames,I.ok.mod,I.bs,Nat.le_trans I.ok.bsz I.sz,I.stack,I.stkFree,I.hok,I.bare⟩
theorem Inv.after {Q:VK} {u:Value} (I:Inv X pins σ H s) (h:CE X.stack X.prog X.w H s Q u s'):EP X pins σ Q u s':=by
  obtain ⟨v,H',os,bare,un,hok,r,q⟩:=h
  obtain ⟨hh,g,d,t,os'⟩:=s'
  obtain rfl:os' = s.os:=os
  exact ⟨v,H',I.call (h':=hh) (g':=g) (d':=d) (t':=t) (ch:=[]) un hok bare (fun b z=>absurd z (by simp)),r,q⟩
end
def tCall (sp:Sp) (dvs:List V) (E:XK) (t:TA):TE:=fun σ H Q=>t σ H fun vs H1=>sp (vs ++ dvs) H1 Q E
def tMeth (C:Addr) (m:Str) (sp:Sp) (dvs:List V) (E:XK) (ta:TE) (t:TA):TE:=fun σ H Q=>ta σ H fun x H1=>∃ a dx fs,x = .ref a ∧ H1 a = some (.ins C dx fs) ∧ fs.lookup m = none ∧
  t σ H1 fun vs H2=>sp (x :: (vs ++ dvs)) H2 Q E
def tMake (C:Addr) (sp:Sp) (dvs:List V) (E:XK) (t:TA):TE:=fun σ H Q=>t σ H fun vs H1=>∀ x dx,H1 x = none → H1 dx = none → dx ≠ x →
  sp (.ref x :: (vs ++ dvs)) (upd (upd H1 dx (.own x)) x (.ins C dx [])) (fun v H2=>v = .non ∧ Q (.ref x) H2) E
def Binds (K:PySem.W.Frag) (fd:FuncData) (ps:List Str) (ds:List Value):Prop :=
  ∀ (s:Shared) (us:List Value),K.In s.heap → (us ++ ds).length = ps.length → BindsTo s fd ⟨us,[]⟩ (ps.zip (us ++ ds))
theorem Binds.all {K:PySem.W.Frag} {fd:FuncData} {ps:List Str} (h:∀ us:List Value,us.length = ps.length → bindArgs fd ⟨us,[]⟩ = pure (ps.zip us)):Binds K fd ps []:=fun s us _ hl=>by
  rw [List.append_nil] at hl ⊢
  exact .of_eq (h us hl)
def Passes (CX:CXT) (X:Cx) (E:XK):Prop:=∀ (pins:List (Addr × Obj)) (σ:St) (H:Hp) (s:Shared) (e:Value) (s':Shared),Inv X pins σ H s → CX X.stack H s E e s' → X.xe e s'
section
variable {X:Cx} {CX:CXT} {k:Nat} {f C:Addr} {fd:FuncData} {ps:List Str} {sp:Sp} {dvs:List V} {ds:List Value} {E:XK} {x m:Str} {p pos apos:Pos} {e o:Expr} {es:List Expr} {ta:TE} {t:TA}
theorem run_fn {pins:List (Addr × Obj)} {σ:St} {H:Hp} {s:Shared} {Q:VK} {us:List Value} {vs:List V} (F:FnOk X.prog X.w X.K X.mg X.base CX k f fd ps sp) (hr:Room k X.A) (hb:Binds X.K fd ps ds) (hd:Vals dvs ds) (hx:Passes CX X E)
    (I:Inv X pins σ H s) (r:Vals vs us) (h:sp (vs ++ dvs) H Q E):wpAny (model X.prog X.w) X.A (call (.ref f) us) (EP X pins σ Q) X.xe s:=by
  have r2:Vals (vs ++ dvs) (us ++ ds):=r.append hd
  have hl:(us ++ ds).length = ps.length:=by rw [← r2.length]; exact F.len _ _ _ _ h
  refine wpAny_call (codeAny_mono (F.run X.A X.stack s H ⟨us,[]⟩ (us ++ ds) (vs ++ dvs) Q E hr I.env0 (hb s us I.kIn hl) r2 h) fun r s' hq=>?_)
  cases r with
  | error e=>exact hx pins σ H s e s' I hq
  | ok fl =>
    cases fl with
    | ret u=>exact I.after hq
    | next=>exact False.elim hq
    | brk=>exact False.elim hq
    | cont=>exact False.elim hq
theorem pe_call (F:FnOk X.prog X.w X.K X.mg X.base CX k f fd ps sp) (hr:Room k X.A) (hg:Gl X x) (hm:X.mg x = some (.ref f)) (hk:PySem.W.keepIn X.K (.ref f) = true) (hb:Binds X.K fd ps ds) (hd:Vals dvs ds) (hx:Passes CX X E)
    (ha:PA X (e :: es) t) (hdb:(x == ("__debug__":Str)) = false:=by decide) (he:starEach (e :: es) X.env = (false,eval e X.env) :: starEach es X.env:=by rfl) (hpl:(backTo pos (starEach es X.env)).any (·.1) = false:=by rfl) :
    PE X (.Call (.Name x p) (e :: es) [] pos) (tCall sp dvs E t):=by
  intro pins s σ H Q I h
  refine wpAny_Call_Name_kw (ld_glob I hg hm ?_ hdb)
  refine PySem.W.callWith_K (h₀:=X.base) I.ok.mod.kin hk (thn (ha pos pins s σ H _ I h) fun us s1 ⟨vs,H1,I1,r,q⟩=>⟨I1.kIn,?_⟩) he hpl
  exact run_fn F hr hb hd hx I1 r q
theorem pe_meth {pl:Sem Bool} (he:PE X o ta) (c:Cls X.K C) (hm:Meth X.K C m f) (F:FnOk X.prog X.w X.K X.mg X.base CX k f fd ps sp) (hr:Room k X.A) (hb:Binds X.K fd ps ds) (hd:Vals dvs ds) (hx:Passes CX X E) (ha:PA X (e :: es) t)
    (hst:starEach (e :: es) X.env = (false,eval e X.env) :: starEach es X.env:=by rfl) (hpl:(backTo pos (starEach es X.env)).any (·.1) = false:=by rfl)
    (ht:eval (.Call (.Attribute o m apos) (e :: es) [] pos) X.env = (do
      let ov ← eval o X.env
      standAt apos.atName
      let (f,first) ← holding [ov] (getMethod ov m pl)
      callWith pos f first (backTo pos (starEach (e :: es) X.env)) (backToKw pos (keywordEach [] X.env))):=by rfl) :
    PE X (.Call (.Attribute o m apos) (e :: es) [] pos) (tMeth C m sp dvs E ta t):=by
  intro pins s σ H Q I h
  refine PySem.W.methodCall_KW (pl:=pl) (thn (he pins s σ H _ I h) fun u s1 ⟨x,H1,I1,rx,a,dx,fs,ex,ea,l,q⟩=>?_) ht
  subst ex
  obtain rfl:u = Value.ref a:=rx
  refine getmeth_ok I1 ea c hm l ?_
  refine PySem.W.callWith_K (first:=[.ref a]) (h₀:=X.base) I.ok.mod.kin hm.kp (thn (ha pos pins s1 σ H1 _ I1 q) fun us s2 ⟨vs,H2,I2,r,q2⟩=>⟨I2.kIn,?_⟩) hst hpl
  exact run_fn (us:=.ref a :: us) (vs:=.ref a :: vs) F hr hb hd hx I2 (.cons rfl r) q2
theorem pe_meth0 {pl:Sem Bool} (he:PE X o ta) (c:Cls X.K C) (hm:Meth X.K C m f) (F:FnOk X.prog X.w X.K X.mg X.base CX k f fd ps sp) (hr:Room k X.A) (hb:Binds X.K fd ps ds) (hd:Vals dvs ds) (hx:Passes CX X E)
    (ht:eval (.Call (.Attribute o m apos) [] [] pos) X.env = (do
      let ov ← eval o X.env
      standAt apos.atName
      let (f,first) ← holding [ov] (getMethod ov m pl)
      callWith pos f first (backTo pos (starEach [] X.env)) (backToKw pos (keywordEach [] X.env))):=by rfl) :
    PE X (.Call (.Attribute o m apos) [] [] pos) (tMeth C m sp dvs E ta tNil):=by
  intro pins s σ H Q I h
  refine PySem.W.methodCall_KW (pl:=pl) (thn (he pins s σ H _ I h) fun u s1 ⟨x,H1,I1,rx,a,dx,fs,ex,ea,l,q⟩=>?_) ht
  subst ex
  obtain rfl:u = Value.ref a:=rx
  refine getmeth_ok I1 ea c hm l ?_
  exact PySem.W.callWith_K0 (first:=[.ref a]) I1.kIn hm.kp (run_fn (us:=[.ref a]) (vs:=[.ref a]) F hr hb hd hx I1 (.cons rfl .nil) q)
structure Mk (K:PySem.W.Frag) (C f:Addr):Prop where
  makes:PySem.W.makesIn K C = true
  init:PySem.W.findIn K (.ref C) "__init__" = some (some (.ref f))
  fn:PySem.W.isFn K (.ref f) = true
  kp:PySem.W.keepIn K (.ref C) = true
theorem run_make {pins:List (Addr × Obj)} {σ:St} {H:Hp} {s:Shared} {Q:VK} {us:List Value} {vs:List V} (M:Mk X.K C f) (F:FnOk X.prog X.w X.K X.mg X.base CX k f fd ps sp) (hr:Room (k + 1) X.A) (hb:Binds X.K fd ps ds) (hd:Vals dvs ds)
    (hx:Passes CX X E) (I:Inv X pins σ H s) (r:Vals vs us)
    (h:∀ x dx,H x = none → H dx = none → dx ≠ x → sp (.ref x :: (vs ++ dvs)) (upd (upd H dx (.own x)) x (.ins C dx [])) (fun v H2=>v = .non ∧ Q (.ref x) H2) E) :
    wpAny (model X.prog X.w) X.A (call (.ref C) us) (EP X pins σ Q) X.xe s:=by
  have hq:=h (s.heap.objs.size + 1) s.heap.objs.size (I.hok.fresh (Nat.le_succ _)) (I.hok.fresh (Nat.le_refl _)) (Nat.ne_of_lt (Nat.lt_succ_self _))
  have I2:=Inv.made (C:=C) I
  have r2:Vals (V.ref (s.heap.objs.size + 1) :: (vs ++ dvs)) (Value.ref (s.heap.objs.size + 1) :: (us ++ ds)):=.cons rfl (r.append hd)
  have hl:(Value.ref (s.heap.objs.size + 1) :: us ++ ds).length = ps.length:=by
    have e:=r2.length
    rw [F.len _ _ _ _ hq] at e
    exact e.symm
  refine wpAny_call (make_map (f:=f) I.kIn M.makes M.init (beq_iff_eq.mp M.fn) (codeAny_mono (F.run _ X.stack _ _ ⟨Value.ref (s.heap.objs.size + 1) :: us,[]⟩ (Value.ref (s.heap.objs.size + 1) :: (us ++ ds)) _ _ E (hr.make C us [])
    (I2.env0.make C us []) (hb _ (Value.ref (s.heap.objs.size + 1) :: us) I2.kIn hl) r2 hq) fun r s' hq'=>?_))
  cases r with
  | error e=>exact hx pins σ _ _ e s' I2 hq'
  | ok fl =>
    cases fl with
    | ret u =>
      obtain ⟨v,H',I3,rv,ev,q3⟩:=I2.after hq'
      subst ev
      exact ⟨rv,⟨V.ref (s.heap.objs.size + 1),H',I3,rfl,q3⟩⟩
    | next=>exact False.elim hq'
    | brk=>exact False.elim hq'
    | cont=>exact False.elim hq'
theorem pe_make (M:Mk X.K C f) (F:FnOk X.prog X.w X.K X.mg X.base CX k f fd ps sp) (hr:Room (k + 1) X.A) (hg:Gl X x) (hm:X.mg x = some (.ref C)) (hb:Binds X.K fd ps ds) (hd:Vals dvs ds) (hx:Passes CX X E)
    (ha:PA X (e :: es) t) (hdb:(x == ("__debug__":Str)) = false:=by decide) (he:starEach (e :: es) X.env = (false,eval e X.env) :: starEach es X.env:=by rfl) (hpl:(backTo pos (starEach es X.env)).any (·.1) = false:=by rfl) :
    PE X (.Call (.Name x p) (e :: es) [] pos) (tMake C sp dvs E t):=by
  intro pins s σ H Q I h
  refine wpAny_Call_Name_kw (ld_glob I hg hm ?_ hdb)
  refine PySem.W.callWith_K (h₀:=X.base) I.ok.mod.kin M.kp (thn (ha pos pins s σ H _ I h) fun us s1 ⟨vs,H1,I1,r,q⟩=>⟨I1.kIn,?_⟩) he hpl
  exact run_make M F hr hb hd hx I1 r q
end
section
variable {X:Cx} {CX:CXT} {k:Nat} {f C:Addr} {fd:FuncData} {ps ks:List Str} {sp:Sp} {E:XK} {x m:Str} {p pos apos kpos:Pos} {e o:Expr} {es:List Expr} {kws:List Keyword} {te ta:TE} {t tk:TA} {nm:Option Str}
structure KBinds (K:PySem.W.Frag) (fd:FuncData) (ps ks:List Str) (g:List Value → List Value → List Value) (gV:List V → List V → List V):Prop where
  to:∀ (s:Shared) (us ws:List Value),K.In s.heap → (g us ws).length = ps.length → BindsTo s fd ⟨us,ks.zip ws⟩ (ps.zip (g us ws))
  rel:∀ {vs:List V} {us:List Value} {zs:List V} {ws:List Value},Vals vs us → Vals zs ws → Vals (gV vs zs) (g us ws)
variable {g:List Value → List Value → List Value} {gV:List V → List V → List V}
end
structure FnScope (N P:List Str) (sc:Scope):Prop where
  kind:sc.kind = .function
  co:sc.isCoroutine = false
  gen:sc.isGenerator = false
  nd:N.Nodup
  pre:N.take P.length = P
  par:∀ x ∈ P,sc.names.lookup x = some .local ∨ sc.names.lookup x = some .cell
  nofree:∀ y ∈ sc.names,y.2 ≠ .free
theorem bindL_out {kindOf:Str → Option NameKind} {x:Str}:∀ {binds:List (Str × Value)} {m:Str → Option Value},(∀ v,(x,v) ∉ binds) → bindL kindOf binds m x = m x
  | [],_,_=>rfl
  | (n,v) :: r,m,h=>by
    unfold bindL
    rw [bindL_out fun w hw=>h w (List.mem_cons_of_mem _ hw)]
    split
    · have:x ≠ n:=by rintro rfl; exact h v List.mem_cons_self
      simp [this]
    · rfl
theorem bindC_out {kindOf:Str → Option NameKind} {x:Str}:∀ {binds:List (Str × Value)} {m:Str → Option Value},(∀ v,(x,v) ∉ binds) → bindC kindOf binds m x = m x
  | [],_,_=>rfl
  | (n,v) :: r,m,h=>by
    unfold bindC
    rw [bindC_out fun w hw=>h w (List.mem_cons_of_mem _ hw)]
    split
    · rfl
    · have:x ≠ n:=by rintro rfl; exact h v List.mem_cons_self
      simp [this]
theorem bindL_get {kindOf:Str → Option NameKind} {x:Str} {v:Value}:∀ {P:List Str} {vs:List Value} {i:Nat} {m:Str → Option Value},P.Nodup → P[i]? = some x → vs[i]? = some v → kindOf x = some .local →
    bindL kindOf (P.zip vs) m x = some v
  | [],_,_,_,_,h,_,_=>by simp at h
  | _ :: _,[],_,_,_,_,h,_=>by simp at h
  | p :: P,w :: vs,0,m,nd,h1,h2,hk=>by
    simp at h1 h2; subst h1; subst h2
    show bindL kindOf ((p,w) :: P.zip vs) m p = _
    unfold bindL
    rw [bindL_out fun v hv=>(List.nodup_cons.mp nd).1 (List.of_mem_zip hv).1,if_pos hk]
    simp
  | p :: P,w :: vs,i + 1,m,nd,h1,h2,hk=>by
    show bindL kindOf ((p,w) :: P.zip vs) m x = _
    unfold bindL
    exact bindL_get (i:=i) (List.nodup_cons.mp nd).2 (by simpa using h1) (by simpa using h2) hk
theorem bindC_get {kindOf:Str → Option NameKind} {x:Str} {v:Value}:∀ {P:List Str} {vs:List Value} {i:Nat} {m:Str → Option Value},P.Nodup → P[i]? = some x → vs[i]? = some v → kindOf x ≠ some .local →
    bindC kindOf (P.zip vs) m x = some v
  | [],_,_,_,_,h,_,_=>by simp at h
  | _ :: _,[],_,_,_,_,h,_=>by simp at h
  | p :: P,w :: vs,0,m,nd,h1,h2,hk=>by
    simp at h1 h2; subst h1; subst h2
    show bindC kindOf ((p,w) :: P.zip vs) m p = _
    unfold bindC
    rw [bindC_out fun v hv=>(List.nodup_cons.mp nd).1 (List.of_mem_zip hv).1,if_neg hk]
    simp
  | p :: P,w :: vs,i + 1,m,nd,h1,h2,hk=>by
    show bindC kindOf ((p,w) :: P.zip vs) m x = _
    unfold bindC
    exact bindC_get (i:=i) (List.nodup_cons.mp nd).2 (by simpa using h1) (by simpa using h2) hk
def start (N:List Str) (vs:List V):St:=vs.map some ++ List.replicate (N.length - vs.length) none
def cxOf (CX:CXT) (P:Program) (w:World) (K:PySem.W.Frag) (mg:Str → Option Value) (base:Heap) (N:List Str) (qual:Str) (scope:Scope) (f:Addr) (cd:Value) (A:Around) (outer:List Env) (s:Shared) (H:Hp) (E:XK):Cx where
  prog:=P
  w:=w
  K:=K
  mg:=mg
  base:=base
  A:=A.deeper (envOfC qual scope s.heap.objs.size f cd)
  N:=N
  s₀:=s
  H₀:=H
  env:=envOfC qual scope s.heap.objs.size f cd
  outer:=outer
  stack:=envOfC qual scope s.heap.objs.size f cd :: outer
  ex:=[]
  calm:=true
  fn:=fun _=>true
  pn:=[]
  xe:=fun e s'=>wpAny (model P w) (A.deeper (envOfC qual scope s.heap.objs.size f cd)) (leaving (envOfC qual scope s.heap.objs.size f cd) e) (fun _ s''=>CX outer H s E e s'') (fun e' s''=>CX outer H s E e' s'') s'
theorem cell_has {sc:Scope} {n:Nat} {x:Str} (h:sc.names.lookup x = some .cell):∃ c,(cellsFrom n sc.names []).lookup x = some c:=by
  have q:=PySem.W.cellsFrom_some sc.names n [] (.inl h)
  exact Option.isSome_iff_exists.mp q
theorem inv_start {CX:CXT} {P:Program} {w:World} {K:PySem.W.Frag} {mg:Str → Option Value} {base:Heap} {N ps:List Str} {qual:Str} {scope:Scope} {f:Addr} {cd:Value} {A:Around} {outer:List Env} {s s1:Shared} {H:Hp} {E:XK} {us:List Value} {vs:List V}
    (S:FnScope N ps scope) (hd:A.handled = none) (e0:Env0 P w K mg base A outer s H) (hl:vs.length = ps.length) (r:Vals vs us)
    (x:InCallC s s.heap.objs.size (bindL (envOfC qual scope s.heap.objs.size f cd).kindOf (ps.zip us) fun _=>none) (cellsFrom (s.heap.objs.size + 1) scope.names []) (bindC (envOfC qual scope s.heap.objs.size f cd).kindOf (ps.zip us) fun _=>none) s1) :
    Inv (cxOf CX P w K mg base N qual scope f cd A outer s H E) [] (start N vs) H s1:=by
  have hpl:ps.length ≤ N.length:=by have:=congrArg List.length S.pre; rw [List.length_take] at this; omega
  obtain ⟨h1,tk,rfl,hk⟩:=x.done
  have noA:∀ b:Addr,b ∉ (cxOf CX P w K mg base N qual scope f cd A outer s H E).ex:=fun b z=>absurd (show b ∈ ([]:List Addr) from z) (by simp)
  refine ⟨⟨e0.mod,S.kind,rfl,rfl,Nat.le_refl _,fun y z c h1 h2=>?_,fun y hy=>?_,fun y c _ h=>?_,fun _=>hd,Around.frames_deeper e0.frames,.inr ⟨rfl,rfl⟩,fun b z=>absurd z (noA b),e0.bs,e0.bsz,fun b _ _=>noA b,fun b z=>absurd z (noA b),e0.funs,e0.frf⟩,
    rfl,e0.bare,Un.kept hk,⟨_,x.toInCall.ns,fun i y v h1 h2 h3=>?_⟩,fun y c h=>⟨_,x.cell y c h⟩,e0.hok.fresh (Nat.le_refl _),fun y c h=>?_,fun p hp=>absurd (show p ∈ ([]:List (Addr × Obj)) from hp) (by simp),e0.hok.kept hk,?_⟩
  · exact name_of_addr x.apart (PySem.mem_of_lookup h1) (PySem.mem_of_lookup h2)
  · have hy:scope.names.lookup y = some .cell ∨ scope.names.lookup y = some .free:=hy
    rcases hy with hy | hy
    · exact cell_has hy
    · exact absurd rfl (S.nofree _ (PySem.mem_of_lookup hy))
  · exact Nat.le_of_lt (x.above y c (PySem.mem_of_lookup h))
  · have hi:i < vs.length:=by
      unfold start at h2
      by_cases hi:i < vs.length
      · exact hi
      · rw [List.getElem?_append_right (by simpa using hi)] at h2
        rw [List.getElem?_replicate] at h2
        split at h2 <;> cases h2
    have ha:vs[i]? = some v:=by
      unfold start at h2
      rw [List.getElem?_append_left (by simpa using hi),List.getElem?_map] at h2
      cases e:vs[i]? with
      | none=>rw [e] at h2; cases h2
      | some a=>rw [e] at h2; cases h2; rfl
    obtain ⟨u,hu,rv⟩:=r.get ha
    have hp:ps[i]? = some y:=by
      rw [← S.pre,List.getElem?_take_of_lt (by omega)]; exact h1
    have ndP:ps.Nodup:=by rw [← S.pre]; exact S.nd.sublist (List.take_sublist _ _)
    refine ⟨u,rv,?_⟩
    rcases S.par y (List.mem_of_getElem? hp) with k | k
    · exact .inl ⟨k,bindL_get ndP hp hu k⟩
    · obtain ⟨c,e⟩:=cell_has (n:=s.heap.objs.size + 1) k
      refine .inr ⟨.inl k,c,e,?_⟩
      have q:=x.cell y c e
      rw [bindC_get ndP hp hu (by show scope.names.lookup y ≠ _; rw [k]; decide)] at q
      exact q
  · exact e0.hok.fresh (Nat.le_of_lt (x.above y c (PySem.mem_of_lookup h)))
  · unfold start
    show _ = N.length
    rw [List.length_append,List.length_map,List.length_replicate]
    omega
theorem fn_of {CX:CXT} {P:Program} {w:World} {K:PySem.W.Frag} {mg:Str → Option Value} {base:Heap} {k:Nat} {f:Addr} {name qual:Str} {params:Arguments} {body:List Stmt} {scope:Scope} {dV kV doc pm cdv ct oc:Value} {an od:Option Addr}
    {osl:Array (Option Value)} {N ps:List Str} {sp:Sp} (lk:K.lookup f = some ⟨oc,od,.func (PySem.W.fnOf name qual params body scope dV kV doc pm an cdv ct),osl⟩) (hcd:PySem.W.codeIn K cdv qual = true) (S:FnScope N ps scope)
    (len:∀ vs H Q E,sp vs H Q E → vs.length = ps.length)
    (hbody:∀ (A:Around) (outer:List Env) (s:Shared) (H:Hp) (vs:List V) (Q:VK) (E:XK),Room k (A.deeper (envOfC qual scope s.heap.objs.size f cdv)) → sp vs H Q E →
      ∃ t,PSs (cxOf CX P w K mg base N qual scope f cdv A outer s H E) body t ∧ t { nx:=fun _ H'=>Q .non H',rt:=Q } (start N vs) H) :
    FnOk P w K mg base CX (k + 1) f (PySem.W.fnOf name qual params body scope dV kV doc pm an cdv ct) ps sp:=by
  refine ⟨len,fun A outer s H args us vs Q E hr e0 hb r hsp=>?_⟩
  have hl:=len _ _ _ _ hsp
  have KX:K.In s.heap:=e0.mod.kin.keeps fun b o e=>(e0.bs b o e).1
  have lim:s.heap.NoLimit:=e0.mod.nolimit.keeps fun b o e=>(e0.bs b o e).1
  have hkind:∀ y ∈ ps.zip us,scope.names.lookup y.1 = some .local ∨ (scope.names.lookup y.1 = some .cell ∧ ((cellsFrom (s.heap.objs.size + 1) scope.names []).lookup y.1).isSome = true):=fun ⟨n,v⟩ hy=>by
    rcases S.par n (List.of_mem_zip hy).1 with q | q
    · exact .inl q
    · exact .inr ⟨q,PySem.W.cellsFrom_some _ _ _ (.inl q)⟩
  refine codeAny_call_function hr.depth (KX _ _ lk) rfl S.co S.gen rfl (PySem.W.codeRec_of KX hcd) (hb _ _ _ _ ?_)
  refine wpAny_newFunctionEnv_cells S.kind hkind fun env he s1 x=>?_
  subst he
  refine ⟨lim.keeps x.toInCall.keep,codeAny_func ?_⟩
  obtain ⟨t,ht,hq⟩:=hbody A outer s H vs Q E (hr.deeper _) hsp
  have I:Inv (cxOf CX P w K mg base N qual scope f cdv A outer s H E) [] (start N vs) H s1:=inv_start S hr.hd e0 hl r x
  refine wpAny_mono (ht [] s1 (start N vs) H _ I hq) (fun fl s' hs=>?_) fun e s' hs=>hs
  have fin:∀ {σ':St} {H':Hp} {v:V} {u:Value},Inv (cxOf CX P w K mg base N qual scope f cdv A outer s H E) [] σ' H' s' → RelV v u → Q v H' → CE outer P w H s Q u s' :=
    fun {σ' H' v u} J rv q=>⟨v,H',J.os,J.bare,J.base,J.hok,rv,q⟩
  cases fl with
  | ret u =>
    obtain ⟨v,σ',H',J,rv,q⟩:=hs
    exact fin J rv q
  | next =>
    obtain ⟨σ',H',J,q⟩:=hs
    exact fin (v:=V.non) (u:=Value.none) J rfl q
  | brk =>
    obtain ⟨_,_,_,q⟩:=hs
    exact False.elim q
  | cont =>
    obtain ⟨_,_,_,q⟩:=hs
    exact False.elim q
end L2
namespace L2
open PySem PySem.Spec PyProof.Rows
section
variable {X:Cx} {x:Str} {p pos:Pos} {e:Expr} {es:List Expr} {t:TA} {id T:String} {r:List V → Hp → VK → Prop}
def tCB (r:List V → Hp → VK → Prop) (t:TA):TE:=fun σ H Q=>t σ H fun vs H1=>r vs H1 Q
theorem pe_callB (hc:CallR X (.builtin id) r) (hg:Gl X x) (hm:X.mg x = none) (hv:bootBuiltins x = some (.builtin id)) (ha:PA X (e :: es) t) (hn:x ≠ "__name__":=by decide) (hdb:(x == ("__debug__":Str)) = false:=by decide)
    (he:starEach (e :: es) X.env = (false,eval e X.env) :: starEach es X.env:=by rfl) (hpl:(backTo pos (starEach es X.env)).any (·.1) = false:=by rfl):PE X (.Call (.Name x p) (e :: es) [] pos) (tCB r t):=by
  intro pins s σ H Q I h
  refine wpAny_Call_Name_kw (ld_blt I hg hm hv ?_ hn hdb)
  exact PyProof.Rows.callWith_builtin1 (thn (ha pos pins s σ H _ I h) fun us s1 ⟨vs,H1,I1,r1,q1⟩=>hc pins s1 σ H1 vs us Q I1 r1 q1) he hpl
theorem pe_callTy (hc:CallR X (.type T) r) (hg:Gl X x) (hm:X.mg x = none) (hv:bootBuiltins x = some (.type T)) (ha:PA X (e :: es) t) (hn:x ≠ "__name__":=by decide) (hdb:(x == ("__debug__":Str)) = false:=by decide)
    (he:starEach (e :: es) X.env = (false,eval e X.env) :: starEach es X.env:=by rfl) (hpl:(backTo pos (starEach es X.env)).any (·.1) = false:=by rfl):PE X (.Call (.Name x p) (e :: es) [] pos) (tCB r t):=by
  intro pins s σ H Q I h
  refine wpAny_Call_Name_kw (ld_blt I hg hm hv ?_ hn hdb)
  exact PyProof.Rows.callWith_type1 (thn (ha pos pins s σ H _ I h) fun us s1 ⟨vs,H1,I1,r1,q1⟩=>hc pins s1 σ H1 vs us Q I1 r1 q1) he hpl
end
end L2
namespace HT
open PySem PyProof.Rows
section
open PySem.SeqAt
open PySem.AutoSeq1 (wpAny_loadPart')
open PySem.MeetsSeq PySem.MeetsSeq2 PySem.MeetsSeq3
end
section
variable {prog:Program} {w:World} {A:Around} {E:Value → Shared → Prop} {s:Shared}
def sIx (n d:Nat):Option Int → Nat
  | none=>d
  | some v=>if v < 0 then (v + (n:Int)).toNat else min v.toNat n
theorem sIx_none (n d:Nat):sIx n d none = d:=rfl
theorem sIx_nat (n d k:Nat):sIx n d (some (k:Int)) = min k n:=by
  show (if (k:Int) < 0 then ((k:Int) + (n:Int)).toNat else min (k:Int).toNat n) = min k n
  rw [if_neg (by omega),Int.toNat_natCast]
theorem sIx_le (n d:Nat) (hd:d ≤ n) (o:Option Int):sIx n d o ≤ n:=by
  cases o with
  | none=>exact hd
  | some v =>
    show (if v < 0 then (v + (n:Int)).toNat else min v.toNat n) ≤ n
    by_cases hv:v < 0
    · rw [if_pos hv]; omega
    · rw [if_neg hv]; exact Nat.min_le_right _ _
theorem clip_eq (v:Int) (n d:Nat):(if v < 0 then max (v + (n:Int)) 0 else min v (n:Int)) = ((sIx n d (some v):Nat):Int):=by
  show (if v < 0 then max (v + (n:Int)) 0 else min v (n:Int)) = (((if v < 0 then (v + (n:Int)).toNat else min v.toNat n):Nat):Int)
  by_cases hv:v < 0
  · simp only [if_pos hv]; omega
  · simp only [if_neg hv]; omega
theorem adjust_gen (lo hi:Option Int) (n:Nat):Builtin.Slice.sliceAdjust lo hi 1 (n:Int) = (((sIx n 0 lo:Nat):Int),((sIx n n hi:Nat):Int)):=by
  have h1:¬ ((1:Int) < 0):=by omega
  unfold Builtin.Slice.sliceAdjust
  simp only [h1,if_false]
  refine Prod.ext ?_ ?_
  · cases lo with
    | none=>rfl
    | some v=>exact clip_eq v n 0
  · cases hi with
    | none=>rfl
    | some v=>exact clip_eq v n n
theorem places_gen (i j:Nat):Builtin.Slice.slicePlaces (i:Int) (j:Int) 1 = j - i:=by
  unfold Builtin.Slice.slicePlaces
  have h1:(1:Int) > 0:=by omega
  simp only [h1,if_true,Int.ediv_one]
  split <;> omega
theorem slicePart_ {v:Value} {o:Option Int} {Q:Option Int → Shared → Prop} (p:IsPart v o) (h:Q o s):wpAny (model prog w) A (Builtin.Slice.slicePartIndex v) Q E s:=by
  cases p with
  | none=>exact slicePart_none h
  | int i t=>exact slicePart_int h
theorem sliceApplied_gen {sl:Addr} {vl vu:Value} {lo hi:Option Int} {n:Nat} {Q:Int × Int × Nat → Shared → Prop} (hs:s.heap.IsSliceOf sl vl vu .none) (pl:IsPart vl lo) (pu:IsPart vu hi)
    (h:Q (((sIx n 0 lo:Nat):Int),1,sIx n n hi - sIx n 0 lo) s):wpAny (model prog w) A (Builtin.Slice.sliceApplied (.ref sl) (pure (n:Int))) Q E s:=by
  obtain ⟨os,hos,hcs,hds⟩:=id hs
  unfold Builtin.Slice.sliceApplied Builtin.Slice.sliceFields
  refine wpAny_bind (wpAny_bind (wpAny_field hos hds (x:=vl) rfl (wpAny_bind (wpAny_field hos hds (x:=vu) rfl (wpAny_bind (wpAny_field hos hds (x:=.none) rfl (wpAny_pure ?_)))))))
  refine wpAny_bind (slicePart_none ?_)
  show wpAny _ _ (if ((1:Int) == 0) = true then _ else _) _ _ s
  rw [if_neg (by decide)]
  refine wpAny_bind (slicePart_ pl (wpAny_bind (slicePart_ pu (wpAny_bind (wpAny_pure ?_)))))
  show wpAny _ _ (match Builtin.Slice.sliceAdjust lo hi 1 (n:Int) with | (lo,hi)=>pure (lo,(1:Int),Builtin.Slice.slicePlaces lo hi 1)) _ _ s
  rw [adjust_gen lo hi n]
  show wpAny _ _ (pure (((sIx n 0 lo:Nat):Int),(1:Int),Builtin.Slice.slicePlaces ((sIx n 0 lo:Nat):Int) ((sIx n n hi:Nat):Int) 1)) _ _ s
  rw [places_gen]
  exact wpAny_pure h
theorem pick_gen (xs:Array Value) (i k:Nat):((List.range k).filterMap fun (m:Nat)=>xs[((i:Int) + (m:Int) * 1).toNat]?).toArray = ((xs.toList.drop i).take k).toArray:=by
  have e:(fun (m:Nat)=>xs[((i:Int) + (m:Int) * 1).toNat]?) = fun m=>xs[i + m]?:=by
    funext m
    have:((i:Int) + (m:Int) * 1).toNat = i + m:=by omega
    rw [this]
  rw [e]
  have:=pick_run xs i k
  rw [List.filterMap_map] at this
  have e2:((fun x=>xs[x]?) ∘ fun x=>i + x) = fun m=>xs[i + m]?:=rfl
  rw [e2] at this
  rw [this]
theorem getItem_tuple_cut {t sl:Addr} {items:Array Value} {vl vu:Value} {lo hi:Option Int} {Q:Value → Shared → Prop} (ht:IsTup s.heap t items) (hs:s.heap.IsSliceOf sl vl vu .none) (pl:IsPart vl lo) (pu:IsPart vu hi)
    (hw:¬ (sIx items.size 0 lo = 0 ∧ sIx items.size items.size hi = items.size))
    (h:Q (.ref s.heap.objs.size) { s with heap:=s.heap.push { cls:=.type "tuple",data:=.seq ((items.toList.drop (sIx items.size 0 lo)).take (sIx items.size items.size hi - sIx items.size 0 lo)).toArray } })
    (hsz:items.size ≤ sizeLine):wpAny (model prog w) A (getItem (.ref t) (.ref sl)) Q E s:=by
  have htake:sizeOk (.seq ((items.toList.drop (sIx items.size 0 lo)).take (sIx items.size items.size hi - sIx items.size 0 lo)).toArray):=by
    show ((items.toList.drop (sIx items.size 0 lo)).take (sIx items.size items.size hi - sIx items.size 0 lo)).toArray.size ≤ sizeLine
    rw [List.size_toArray,List.length_take,List.length_drop,Array.length_toList]
    omega
  have hj:sIx items.size items.size hi ≤ items.size:=sIx_le _ _ (Nat.le_refl _) hi
  obtain ⟨os,hos,hcs,hds⟩:=id hs
  have hTs:s.TypeIs (.ref sl) "slice":=⟨os,hos,hcs⟩
  unfold getItem
  try with_reducible refine wpAny_holding ?_
  first | refine wpAny_bind (wpAny_pure ?_) | skip
  refine wpAny_bind (wpAny_sequenceKey ht.typeIs (by decide) ?_)
  refine wpAny_bind (wpAny_callSpecial?_slot (name:=Str.ofString "__getitem__") ht.typeIs PyProof.Rows.slot_tuple_getitem
    (wpAny_call_entry PyProof.Rows.slot_tuple_getitem ht.typeIs entry_tuple_getitem ?_ (args_tuple_getitem _ _)))
  show wpAny _ _ (Builtin.Tuple.tupleItemsOf (.ref t) >>= _) _ _ s
  refine wpAny_bind (tupleItemsOf_ ht ?_)
  refine wpAny_bind (wpAny_typeOf hTs ?_)
  rw [if_pos (by decide)]
  refine wpAny_bind (sliceApplied_gen hs pl pu ?_)
  have hno:¬ ((((sIx items.size 0 lo:Nat):Int) == 0 && (1:Int) == 1 && (sIx items.size items.size hi - sIx items.size 0 lo) == items.size) = true):=by
    intro q
    rw [Bool.and_eq_true,Bool.and_eq_true] at q
    have q1:((sIx items.size 0 lo:Nat):Int) = 0:=eq_of_beq q.1.1
    have q2:sIx items.size items.size hi - sIx items.size 0 lo = items.size:=eq_of_beq q.2
    exact hw ⟨by omega,by omega⟩
  show wpAny _ _ (if (((sIx items.size 0 lo:Nat):Int) == 0 && (1:Int) == 1 && (sIx items.size items.size hi - sIx items.size 0 lo) == items.size) = true then _ else _) _ _ s
  rw [if_neg hno,pick_gen]
  first
    | exact wpAny_bind (m:=Builtin.Tuple.tupleExact _) (wpAny_newObj_type (wpAny_pure ⟨_,rfl,wpAny_pure h⟩) htake)
    | exact wpAny_bind (m:=Builtin.Tuple.tupleExact _) (wpAny_newObj_type (wpAny_bind (wpAny_pure (wpAny_pure ⟨_,rfl,wpAny_pure h⟩))) htake)
    | exact wpAny_bind (wpAny_bind (m:=Builtin.Tuple.tupleExact _) (wpAny_newObj_type (wpAny_pure (wpAny_pure ⟨_,rfl,wpAny_pure h⟩)) htake))
    | exact wpAny_bind (wpAny_bind (m:=Builtin.Tuple.tupleExact _) (wpAny_newObj_type (wpAny_pure ⟨_,rfl,wpAny_pure h⟩) htake))
end
end HT
namespace L2
open PySem PySem.Spec PyProof.Rows
abbrev TO:=St → Hp → (Option Int → Hp → Prop) → Prop
def PO (X:Cx) (e:Option Expr) (t:TO):Prop :=
  ∀ (pins:List (Addr × Obj)) (s:Shared) (σ:St) (H:Hp) (Q:Option Int → Hp → Prop),Inv X pins σ H s → t σ H Q →
    wpAny (model X.prog X.w) X.A (evalPart e X.env) (fun u s'=>∃ o H',Inv X pins σ H' s' ∧ IsPart u o ∧ Q o H') X.xe s
def tNoPart:TO:=fun _ H Q=>Q none H
def tPart (t:TE):TO:=fun σ H Q=>t σ H fun x H1=>∃ i,x = .int i ∧ Q (some i) H1
section
variable {X:Cx} {e:Expr} {te:TE} {lo hi:Option Expr} {tl th:TO} {pos p2:Pos}
theorem po_none:PO X none tNoPart:=by
  intro pins s σ H Q I h
  rw [evalPart_none]
  exact wpAny_pure ⟨none,H,I,.none,h⟩
theorem po_some (h:PE X e te):PO X (some e) (tPart te):=by
  intro pins s σ H Q I hw
  rw [evalPart_some]
  refine thn (h pins s σ H _ I hw) fun u s1 ⟨x,H1,I1,r1,q1⟩=>?_
  obtain ⟨i,rfl,q⟩:=q1
  obtain ⟨t,rfl⟩:=r1
  exact ⟨some i,H1,I1,.int i t,q⟩
def SlR (X:Cx) (r:V → Option Int → Option Int → Hp → VK → Prop):Prop :=
  ∀ (pins:List (Addr × Obj)) (s:Shared) (σ:St) (H:Hp) (x:V) (v vl vu:Value) (lo hi:Option Int) (sl:Addr) (Q:VK),Inv X pins σ H s → RelV x v → s.heap.IsSliceOf sl vl vu .none → IsPart vl lo → IsPart vu hi → r x lo hi H Q →
    ∃ T id,typeLookup (.type T) "__getitem__" = pure (some (.builtin id)) ∧ s.TypeIs v T ∧ wpAny (model X.prog X.w) X.A (getItem v (.ref sl)) (EP X pins σ Q) X.xe s
theorem SlR.or {r r':V → Option Int → Option Int → Hp → VK → Prop} (h:SlR X r) (h':SlR X r'):SlR X (fun x lo hi H Q=>r x lo hi H Q ∨ r' x lo hi H Q):=by
  intro pins s σ H x v vl vu lo hi sl Q I rx hs pl pu q
  rcases q with q | q
  · exact h pins s σ H x v vl vu lo hi sl Q I rx hs pl pu q
  · exact h' pins s σ H x v vl vu lo hi sl Q I rx hs pl pu q
def tSl (r:V → Option Int → Option Int → Hp → VK → Prop) (te:TE) (tl th:TO):TE:=fun σ H Q=>te σ H fun x H1=>tl σ H1 fun l H2=>th σ H2 fun u H3=>r x l u H3 Q
theorem pe_slice {r:V → Option Int → Option Int → Hp → VK → Prop} (hr:SlR X r) (he:PE X e te) (hl:PO X lo tl) (hu:PO X hi th):PE X (.Subscript e (.Slice lo hi none p2) pos) (tSl r te tl th):=by
  intro pins s σ H Q I h
  refine Subscript_ (thn (he pins s σ H _ I h) fun v s1 ⟨x,H1,I1,r1,q1⟩=>?_)
  refine wpAny_Slice (thn (hl pins s1 σ H1 _ I1 q1) fun vl s2 ⟨l,H2,I2,pl,q2⟩=>thn (hu pins s2 σ H2 _ I2 q2) fun vu s3 ⟨u,H3,I3,pu,q3⟩=>?_)
  rw [evalPart_none]
  refine wpAny_pure ?_
  have I4:Inv X pins σ H3 { s3 with heap:=s3.heap.push { cls:=.type "slice",data:=.fields #[vl,vu,.none] } }:=I3.kept (t':=s3.toks) fun b ob q=>Heap.get?_push_of_some _ q
  obtain ⟨T,id,hT,ht,hg⟩:=hr pins { s3 with heap:=s3.heap.push { cls:=.type "slice",data:=.fields #[vl,vu,.none] } } σ H3 x v vl vu l u s3.heap.objs.size Q I4 r1 (Heap.IsSliceOf.new ..) pl pu q3
  show wpAny (model X.prog X.w) X.A (subscriptTail e (.Slice lo hi none p2) v (.ref s3.heap.objs.size)) (EP X pins σ Q) X.xe { s3 with heap:=s3.heap.push { cls:=.type "slice",data:=.fields #[vl,vu,.none] } }
  exact tail_any (ops:=[.ref s3.heap.objs.size,v]) ht hT hg (by with_unfolding_all rfl)
def cutV (xs:List V) (lo hi:Option Int):List V:=(xs.drop (HT.sIx xs.length 0 lo)).take (HT.sIx xs.length xs.length hi - HT.sIx xs.length 0 lo)
theorem cutV_length (xs:List V) (lo hi:Option Int):(cutV xs lo hi).length ≤ xs.length:=by
  unfold cutV
  rw [List.length_take,List.length_drop]
  omega
def rSlT (K:PySem.W.Frag):V → Option Int → Option Int → Hp → VK → Prop:=fun x lo hi H Q=>∃ a xs,x = .ref a ∧ SqT K H a xs ∧
  ¬ (HT.sIx xs.length 0 lo = 0 ∧ HT.sIx xs.length xs.length hi = xs.length) ∧ ∀ p,H p = none → Q (.ref p) (upd H p (.tup (cutV xs lo hi)))
theorem sl_tup:SlR X (rSlT X.K):=by
  intro pins s σ H x v vl vu lo hi sl Q I rx hs pl pu h
  obtain ⟨a,xs,rfl,hx,hw,q⟩:=h
  cases rx
  obtain ⟨its,r,ht,hz⟩:=I.tuple hx
  have hlen:its.toArray.size = xs.length:=by rw [List.size_toArray]; exact r.length.symm
  refine ⟨"tuple",_,PyProof.Rows.slot_tuple_getitem.lookup,ht.typeIs,?_⟩
  refine HT.getItem_tuple_cut ht hs pl pu (by rw [hlen]; exact hw) ?_ (by rw [hlen]; exact hz)
  rw [hlen]
  refine ⟨.ref s.heap.objs.size,_,I.laid (t':=s.toks) (o:=.tup (cutV xs lo hi)) (fun b ob q=>Heap.get?_push_of_some _ q) (Nat.le_refl _) ?_,rfl,q _ (I.hok.fresh (Nat.le_refl _))⟩
  exact ⟨Nat.le_trans (cutV_length xs lo hi) hz,_,(r.drop (HT.sIx xs.length 0 lo)).take (HT.sIx xs.length xs.length hi - HT.sIx xs.length 0 lo),IsTup.new _ _⟩
end
end L2
namespace L2
open PySem PySem.Spec PyProof.Rows
def ixN (n:Nat) (i:Int):Option Nat:=if 0 ≤ i then (if i < n then some i.toNat else none) else if -(n:Int) ≤ i then some (i + n).toNat else none
def atI {α:Type} (xs:List α) (i:Int):Option α:=(ixN xs.length i).bind fun j=>xs[j]?
theorem ixN_seq {n:Nat} {i:Int} {j:Nat} (h:ixN n i = some j):seqIndex? i n = some j ∧ j < n ∧ -(n:Int) ≤ i ∧ i < n:=by
  unfold ixN at h
  by_cases h0:0 ≤ i
  · rw [if_pos h0] at h
    by_cases h1:i < n
    · rw [if_pos h1] at h
      have e:i.toNat = j:=Option.some.inj h
      exact ⟨by rw [seqIndex_of h0 h1,e],by omega,by omega,h1⟩
    · rw [if_neg h1] at h; cases h
  · rw [if_neg h0] at h
    by_cases h1:-(n:Int) ≤ i
    · rw [if_pos h1] at h
      have e:(i + n).toNat = j:=Option.some.inj h
      exact ⟨by rw [seqIndex_neg (by omega) h1,e],by omega,h1,by omega⟩
    · rw [if_neg h1] at h; cases h
theorem atI_get {α:Type} {xs:List α} {i:Int} {v:α} (h:atI xs i = some v):∃ j,seqIndex? i xs.length = some j ∧ xs[j]? = some v ∧ j < xs.length ∧ -(xs.length:Int) ≤ i ∧ i < xs.length:=by
  unfold atI at h
  cases e:ixN xs.length i with
  | none=>rw [e] at h; cases h
  | some j =>
    rw [e] at h
    obtain ⟨h1,h2,h3,h4⟩:=ixN_seq e
    exact ⟨j,h1,h,h2,h3,h4⟩
theorem atI_nat {α:Type} {xs:List α} {j:Nat} {v:α} (h:xs[j]? = some v):atI xs (j:Int) = some v:=by
  have hj:j < xs.length:=(List.getElem?_eq_some_iff.mp h).1
  have e:ixN xs.length (j:Int) = some j:=by
    unfold ixN
    rw [if_pos (by omega),if_pos (by omega)]; simp
  unfold atI; rw [e]; exact h
theorem atI_last {α:Type} (xs:List α) (v:α):atI (xs ++ [v]) (-1) = some v:=by
  have hl:(xs ++ [v]).length = xs.length + 1:=by simp
  have e:ixN (xs ++ [v]).length (-1) = some xs.length:=by
    unfold ixN
    rw [hl,if_neg (by decide),if_pos (by omega)]
    congr 1
    omega
  unfold atI
  rw [e]
  show (xs ++ [v])[xs.length]? = some v
  simp
def PlainIx (b:Expr):Prop:=∀ o i,subscripted b false o i = operate [o,i] (getItem o i)
def IxR (X:Cx) (r:R2):Prop :=
  ∀ (value slice:Expr) (pins:List (Addr × Obj)) (s:Shared) (σ:St) (H:Hp) (x y:V) (v u:Value) (Q:VK),Inv X pins σ H s → RelV x v → RelV y u → r x y H Q →
    subscripted slice false v u = operate [v,u] (getItem v u) → wpAny (model X.prog X.w) X.A (subscriptTail value slice v u) (EP X pins σ Q) X.xe s
def MtR (X:Cx) (id:String) (r:V → List V → Hp → VK → Prop):Prop :=
  ∀ (pins:List (Addr × Obj)) (s:Shared) (σ:St) (H:Hp) (x:V) (xs:List V) (v:Value) (us:List Value) (Q:VK),Inv X pins σ H s → RelV x v → Vals xs us → r x xs H Q →
    wpAny (model X.prog X.w) X.A (call (.builtin id) (v :: us)) (EP X pins σ Q) X.xe s
section
variable {X:Cx} {a b:Expr} {ta tb:TE} {pos:Pos}
theorem IxR.or {r r':R2} (h:IxR X r) (h':IxR X r'):IxR X (fun x y H Q=>r x y H Q ∨ r' x y H Q):=by
  intro value slice pins s σ H x y v u Q I rx ry q hs
  rcases q with q | q
  · exact h value slice pins s σ H x y v u Q I rx ry q hs
  · exact h' value slice pins s σ H x y v u Q I rx ry q hs
theorem MtR.or {id:String} {r r':V → List V → Hp → VK → Prop} (h:MtR X id r) (h':MtR X id r'):MtR X id (fun x xs H Q=>r x xs H Q ∨ r' x xs H Q):=by
  intro pins s σ H x xs v us Q I rx rs q
  rcases q with q | q
  · exact h pins s σ H x xs v us Q I rx rs q
  · exact h' pins s σ H x xs v us Q I rx rs q
theorem pe_ix {r:R2} (hr:IxR X r) (ha:PE X a ta) (hb:PE X b tb) (hs:PlainIx b):PE X (.Subscript a b pos) (tOp r ta tb):=by
  intro pins s σ H Q I h
  exact Subscript_ (binT ha hb I h fun v u s2 x y H2 I2 rx ry q=>hr a b pins s2 σ H2 x y v u Q I2 rx ry q (hs _ _))
def rIxL (K:PySem.W.Frag):R2:=fun x y H Q=>∃ p xs i v,x = .ref p ∧ y = .int i ∧ SqL K H p xs ∧ atI xs i = some v ∧ Q v H
def rIxT (K:PySem.W.Frag):R2:=fun x y H Q=>∃ p xs i v,x = .ref p ∧ y = .int i ∧ SqT K H p xs ∧ atI xs i = some v ∧ Q v H
def rIxS:R2:=fun x y H Q=>∃ z i c,x = .str z ∧ y = .int i ∧ z.length ≤ sizeLine ∧ atI z.cps.toList i = some c ∧ Q (.str ⟨#[c]⟩) H
theorem ix_list:IxR X (rIxL X.K):=by
  intro value slice pins s σ H x y v u Q I rx ry h hs
  obtain ⟨p,xs,i,z,rfl,rfl,hq,he,q⟩:=h
  cases rx
  obtain ⟨t,rfl⟩:=ry
  obtain ⟨its,r,pl,hz⟩:=I.list hq
  obtain ⟨j,h1,h2,h3,h4,h5⟩:=atI_get he
  obtain ⟨w,ew,rw'⟩:=r.get h2
  have hl:=r.length
  have hn:=line63
  have fin:EP X pins σ Q w s:=⟨z,H,I,rw',q⟩
  by_cases h0:0 ≤ i
  · have hj:i.toNat = j:=by
      rw [seqIndex_of h0 h5] at h1
      exact Option.some.inj h1
    exact item_listR pl.isList h0 (by omega) (by rw [hj]; simpa using ew) fin hs
  · have hj:(i + (its.toArray.size:Int)).toNat = j:=by
      rw [seqIndex_neg (by omega) h4] at h1
      rw [List.size_toArray,← hl]
      exact Option.some.inj h1
    exact subscriptTail_builtinR (x:=w) pl.isList.typeIs slot_list_getitem.lookup
      (wpAny_getItem_list_neg (Q:=fun r s'=>r = w ∧ EP X pins σ Q r s') pl.isList (by omega) (by rw [List.size_toArray] <;> omega) (by omega) (by rw [hj]; simpa using ew) ⟨rfl,fin⟩) hs
theorem ix_tup:IxR X (rIxT X.K):=by
  intro value slice pins s σ H x y v u Q I rx ry h hs
  obtain ⟨p,xs,i,z,rfl,rfl,hq,he,q⟩:=h
  cases rx
  obtain ⟨t,rfl⟩:=ry
  obtain ⟨its,r,pl,hz⟩:=I.tuple hq
  obtain ⟨j,h1,h2,h3,h4,h5⟩:=atI_get he
  obtain ⟨w,ew,rw'⟩:=r.get h2
  have hl:=r.length
  have hn:=line63
  have fin:EP X pins σ Q w s:=⟨z,H,I,rw',q⟩
  exact subscriptTail_builtinR (x:=w) pl.typeIs slot_tuple_getitem.lookup
    (getItem_tuple (j:=j) (Q:=fun r s'=>r = w ∧ EP X pins σ Q r s') pl (by omega) (by omega) (by rw [List.size_toArray,← hl]; exact h1) (by simpa using ew) ⟨rfl,fin⟩) hs
theorem ix_str:IxR X rIxS:=by
  intro value slice pins s σ H x y v u Q I rx ry h hs
  obtain ⟨z,i,c,rfl,rfl,hz,he,q⟩:=h
  obtain ⟨t,rfl⟩:=rx
  obtain ⟨t',rfl⟩:=ry
  obtain ⟨j,h1,h2,h3,h4,h5⟩:=atI_get he
  have hl:z.cps.toList.length = z.length:=by simp [Str.length]
  rw [hl] at h1 h4 h5
  have hn:=line63
  exact tail_any (typeIs_str s z t) slot_str_getitem.lookup (getItem_str (c:=c) (by
    have e1:decide (i < -(2 ^ 63:Int)) = false:=decide_eq_false (by omega)
    have e2:decide (i ≥ 2 ^ 63) = false:=decide_eq_false (by omega)
    rw [e1,e2,Bool.or_false]) (by rw [h1]; simpa using h2) ⟨.str ⟨#[c]⟩,H,I.tok _,⟨_,rfl⟩,q⟩) hs
def rIx (K:PySem.W.Frag):R2:=fun x y H Q=>rIxL K x y H Q ∨ rIxT K x y H Q ∨ rIxS x y H Q
theorem ix_seq:IxR X (rIx X.K):=ix_list.or (ix_tup.or ix_str)
theorem Inv.lst {pins:List (Addr × Obj)} {σ:St} {H:Hp} {s:Shared} {p:Addr} {xs:List V} (I:Inv X pins σ H s) (h:H p = some (.lst xs)) :
    ∃ (its:List Value) (n:Nat),Vals xs its ∧ s.heap.get? p = some { cls:=.type "list",data:=.seq its.toArray n } ∧ xs.length ≤ sizeLine:=by
  obtain ⟨z,its,n,r,e⟩:=I.hok p _ h
  exact ⟨its,n,r,e,z⟩
def rSetL:V → V → V → Hp → (Hp → Prop) → Prop:=fun o i v H Q=>∃ p xs k j,o = .ref p ∧ i = .int k ∧ H p = some (.lst xs) ∧ ixN xs.length k = some j ∧ Q (upd H p (.lst (xs.set j v)))
theorem slice_bounds (lo hi:Option Int) (n:Nat):(sliceBounds lo hi none n).1 = ((HT.sIx n 0 lo:Nat):Int) ∧ (sliceBounds lo hi none n).2.1 = ((HT.sIx n n hi:Nat):Int) ∧ (sliceBounds lo hi none n).2.2 = 1:=by
  refine ⟨?_,?_,rfl⟩
  · cases lo with
    | none=>simp [sliceBounds,HT.sIx]
    | some i =>
      simp only [sliceBounds,HT.sIx,Option.getD_none,show (1:Int) > 0 by decide,if_true]
      by_cases h:i < 0
      · simp only [h,if_true] <;> omega
      · simp only [h,if_false] <;> omega
  · cases hi with
    | none=>simp [sliceBounds,HT.sIx]
    | some i =>
      simp only [sliceBounds,HT.sIx,Option.getD_none,show (1:Int) > 0 by decide,if_true]
      by_cases h:i < 0
      · simp only [h,if_true] <;> omega
      · simp only [h,if_false] <;> omega
theorem slicePick_cut (its:List Value) (lo hi:Option Int):slicePick its.toArray lo hi none = ((its.drop (HT.sIx its.length 0 lo)).take (HT.sIx its.length its.length hi - HT.sIx its.length 0 lo)).toArray:=by
  obtain ⟨h1,h2,h3⟩:=slice_bounds lo hi its.toArray.size
  unfold slicePick
  rw [h1,h2,h3]
  simp only [sliceRange_one,pick_run,List.size_toArray] <;> rfl
def rSlL (K:PySem.W.Frag):V → Option Int → Option Int → Hp → VK → Prop:=fun x lo hi H Q=>∃ a xs,x = .ref a ∧ SqL K H a xs ∧ ∀ p,H p = none → Q (.ref p) (upd H p (.lst (cutV xs lo hi)))
theorem sl_list:SlR X (rSlL X.K):=by
  intro pins s σ H x v vl vu lo hi sl Q I rx hs pl pu h
  obtain ⟨a,xs,rfl,hx,q⟩:=h
  cases rx
  obtain ⟨its,r,ht,hz⟩:=I.list hx
  have hlen:=r.length
  refine ⟨"list",_,slot_list_getitem.lookup,ht.isList.typeIs,?_⟩
  refine wpAny_getItem_list_slice ht.isList hs pl pu .none (by simp) ?_ (by rw [List.size_toArray] <;> omega)
  rw [slicePick_cut,← hlen]
  refine ⟨.ref s.heap.objs.size,_,I.laid (t':=s.toks) (o:=.lst (cutV xs lo hi)) (fun b ob q=>Heap.get?_push_of_some _ q) (Nat.le_refl _) ?_,rfl,q _ (I.hok.fresh (Nat.le_refl _))⟩
  exact ⟨Nat.le_trans (cutV_length xs lo hi) hz,_,0,(r.drop (HT.sIx xs.length 0 lo)).take (HT.sIx xs.length xs.length hi - HT.sIx xs.length 0 lo),Heap.get?_push_size _ rfl⟩
def flatV:V → Bool
  | .non=>true
  | .bl _=>true
  | .int _=>true
  | .str _=>true
  | _=>false
def eqV:V → V → Bool
  | .non,.non=>true
  | .bl a,.bl b=>a == b
  | .bl a,.int b=>(if a then 1 else 0) == b
  | .int a,.bl b=>a == (if b then 1 else 0)
  | .int a,.int b=>a == b
  | .str a,.str b=>a == b
  | _,_=>false
theorem eqAt_V {A:Around} {s:Shared} {y x:V} {u v:Value} (ry:RelV y u) (rx:RelV x v) (fy:flatV y = true) (fx:flatV x = true):SeqAt.EqAt A s u v (eqV y x):=by
  cases y with
  | non =>
    cases ry
    cases x with
    | non=>cases rx; exact SeqAt.EqAt.same _
    | bl b=>cases rx; exact SeqAt.EqAt.none_bool b
    | int b=>obtain ⟨t,rfl⟩:=rx; exact SeqAt.EqAt.none_int b t
    | str b=>obtain ⟨t,rfl⟩:=rx; exact SeqAt.EqAt.none_str b t
    | _=>exact absurd (show false = true from fx) Bool.false_ne_true
  | bl a =>
    cases ry
    cases x with
    | non=>cases rx; exact SeqAt.EqAt.bool_none a
    | bl b=>cases rx; exact SeqAt.EqAt.bool_bool a b
    | int b=>obtain ⟨t,rfl⟩:=rx; exact SeqAt.EqAt.bool_int a b t
    | str b=>obtain ⟨t,rfl⟩:=rx; exact SeqAt.EqAt.bool_str a b t
    | _=>exact absurd (show false = true from fx) Bool.false_ne_true
  | int a =>
    obtain ⟨t',rfl⟩:=ry
    cases x with
    | non=>cases rx; exact SeqAt.EqAt.int_none a t'
    | bl b=>cases rx; exact SeqAt.EqAt.int_bool a t' b
    | int b=>obtain ⟨t,rfl⟩:=rx; exact SeqAt.EqAt.int_int a t' b t
    | str b=>obtain ⟨t,rfl⟩:=rx; exact SeqAt.EqAt.int_str a t' b t
    | _=>exact absurd (show false = true from fx) Bool.false_ne_true
  | str a =>
    obtain ⟨t',rfl⟩:=ry
    cases x with
    | non=>cases rx; exact SeqAt.EqAt.str_none a t'
    | bl b=>cases rx; exact SeqAt.EqAt.str_bool a t' b
    | int b=>obtain ⟨t,rfl⟩:=rx; exact SeqAt.EqAt.str_int a t' b t
    | str b=>obtain ⟨t,rfl⟩:=rx; exact SeqAt.EqAt.str_str a t' b t
    | _=>exact absurd (show false = true from fx) Bool.false_ne_true
  | _=>exact absurd (show false = true from fy) Bool.false_ne_true
def eqU (x:V) (u:Value):Bool:=match u with
  | .none=>eqV .non x
  | .bool b=>eqV (.bl b) x
  | .int i _=>eqV (.int i) x
  | .str z _=>eqV (.str z) x
  | _=>false
theorem eqU_of {x y:V} {u:Value} (r:RelV y u) (f:flatV y = true):eqU x u = eqV y x:=by
  cases y with
  | non=>cases r; rfl
  | bl b=>cases r; rfl
  | int i=>obtain ⟨t,rfl⟩:=r; rfl
  | str z=>obtain ⟨t,rfl⟩:=r; rfl
  | _=>exact absurd (show false = true from f) Bool.false_ne_true
theorem any_eqU {x:V}:∀ {xs:List V} {us:List Value},Vals xs us → xs.all flatV = true → us.any (eqU x) = xs.any fun y=>eqV y x
  | _,_,.nil,_=>rfl
  | y :: xs,u :: us,.cons r t,f=>by
    rw [List.all_cons,Bool.and_eq_true] at f
    rw [List.any_cons,List.any_cons,eqU_of r f.1,any_eqU t f.2]
theorem mem_eqAt {A:Around} {s:Shared} {x:V} {v:Value} (rx:RelV x v) (fx:flatV x = true):∀ {xs:List V} {us:List Value},Vals xs us → xs.all flatV = true → ∀ u ∈ us,SeqAt.EqAt A s u v (eqU x u)
  | _,_,.nil,_=>fun u hu=>by cases hu
  | y :: xs,u :: us,.cons r t,f=>fun u' hu=>by
    rw [List.all_cons,Bool.and_eq_true] at f
    rcases List.mem_cons.mp hu with rfl | hu
    · rw [eqU_of r f.1]; exact eqAt_V r rx f.1 fx
    · exact mem_eqAt rx fx t f.2 u' hu
def inV (x:V) (xs:List V):Bool:=xs.any fun y=>eqV y x
def rIn (K:PySem.W.Frag) (neg:Bool):R2:=fun x y H Q=>∃ p xs,y = .ref p ∧ (SqL K H p xs ∨ SqT K H p xs) ∧ flatV x = true ∧ xs.all flatV = true ∧ Q (.bl (if neg then !inV x xs else inV x xs)) H
theorem op_in_seq:OpR X (compareOp .In) (rIn X.K false):=by
  intro pins s σ H x y v u Q I rx ry h
  obtain ⟨p,xs,rfl,hq,fx,fs,q⟩:=h
  cases ry
  rcases hq with hq | hq
  · obtain ⟨its,r,pl,hz⟩:=I.list hq
    refine SeqAt.in_listAt (eqU x) pl.isList (fun w hw=>mem_eqAt rx fx r fs w (by simpa using hw)) ⟨.bl _,H,I,rfl,?_⟩
    rw [show its.toArray.any (eqU x) = its.any (eqU x) by simp,any_eqU r fs]
    exact q
  · obtain ⟨its,r,pl,hz⟩:=I.tuple hq
    refine SeqAt.in_tupleAt (eqU x) pl (fun w hw=>mem_eqAt rx fx r fs w (by simpa using hw)) ⟨.bl _,H,I,rfl,?_⟩
    rw [show its.toArray.any (eqU x) = its.any (eqU x) by simp,any_eqU r fs]
    exact q
theorem call_len_seq:CallR X (.builtin "len") (fun xs H Q=>∃ p ys,xs = [.ref p] ∧ (SqL X.K H p ys ∨ SqT X.K H p ys) ∧ Q (.int ys.length) H):=by
  intro pins s σ H xs us Q I r h
  obtain ⟨p,ys,rfl,hq,q⟩:=h
  obtain ⟨u,rfl,rx⟩:=vals1 r
  cases rx
  have hn:=line63
  rcases hq with hq | hq
  · obtain ⟨its,r',pl,hz⟩:=I.list hq
    have hlen:=r'.length
    exact Calls.call_len_list pl.isList (by simp only [List.size_toArray] <;> omega) ⟨.int ys.length,H,I.tok _,⟨s.toks + 1,by rw [List.size_toArray,hlen]⟩,q⟩
  · obtain ⟨its,r',pl,hz⟩:=I.tuple hq
    have hlen:=r'.length
    exact len_tuple pl (by simp only [List.size_toArray] <;> omega) ⟨.int ys.length,H,I.tok _,⟨s.toks + 1,by rw [List.size_toArray,hlen]⟩,q⟩
theorem call_len_str:CallR X (.builtin "len") (fun xs H Q=>∃ z,xs = [.str z] ∧ z.length ≤ sizeLine ∧ Q (.int z.length) H):=by
  intro pins s σ H xs us Q I r h
  obtain ⟨z,rfl,hz,q⟩:=h
  obtain ⟨u,rfl,t,rfl⟩:=vals1 r
  have hn:=line63
  exact len_str (by omega) ⟨.int z.length,H,I.tok _,⟨_,rfl⟩,q⟩
theorem CallR.or {f:Value} {r r':List V → Hp → VK → Prop} (h:CallR X f r) (h':CallR X f r'):CallR X f (fun xs H Q=>r xs H Q ∨ r' xs H Q):=by
  intro pins s σ H xs us Q I rs q
  rcases q with q | q
  · exact h pins s σ H xs us Q I rs q
  · exact h' pins s σ H xs us Q I rs q
theorem call_tuple_of:CallR X (.type "tuple") (fun xs H Q=>∃ p ys,xs = [.ref p] ∧ ((SqL X.K H p ys ∧ ∀ l,H l = none → Q (.ref l) (upd H l (.tup ys))) ∨ (SqT X.K H p ys ∧ Q (.ref p) H))):=by
  intro pins s σ H xs us Q I r h
  obtain ⟨p,ys,rfl,h⟩:=h
  obtain ⟨u,rfl,rx⟩:=vals1 r
  cases rx
  rcases h with ⟨hq,q⟩ | ⟨hq,q⟩
  · obtain ⟨its,r',pl,hz⟩:=I.list hq
    have hlen:=r'.length
    refine call_tuple_list pl.isList (fun h' kp=>?_) (by simp only [List.size_toArray] <;> omega)
    have I1:Inv X pins σ H { s with heap:=h' }:=I.kept (t':=s.toks) kp
    have I2:Inv X pins σ (upd H h'.objs.size (.tup ys)) { s with heap:=h'.push { cls:=.type "tuple",data:=.seq its.toArray } } :=
      I1.laid (t':=s.toks) (fun b o e=>Heap.get?_push_of_some _ e) (Nat.le_refl _) (show ObjOk X.prog X.w _ _ _ (.tup ys) from ⟨hz,its,r',IsTup.new _ _⟩)
    exact ⟨.ref h'.objs.size,_,I2,rfl,q _ (I1.hok.fresh (Nat.le_refl _))⟩
  · obtain ⟨its,r',pl,hz⟩:=I.tuple hq
    exact call_tuple_same pl ⟨.ref p,H,I,rfl,q⟩
def tyV (K:PySem.W.Frag) (T:String) (x:V) (H:Hp):Prop:=match x with
  | .str _=>T = "str"
  | .int _=>T = "int"
  | .ref p=>(T = "list" ∧ ∃ xs,SqL K H p xs) ∨ (T = "tuple" ∧ ∃ o,K.lookup p = some o ∧ o.cls = .type "tuple" ∧ o.dict = none) ∨
      (T = "dict" ∧ ((∃ kvs,H p = some (.dK kvs)) ∨ ∃ kvs,H p = some (.dT kvs))) ∨ (T = "set" ∧ ∃ S n,H p = some (.set S n))
  | _=>False
theorem tyV_is {pins:List (Addr × Obj)} {σ:St} {H:Hp} {s:Shared} {T:String} {x:V} {v:Value} (I:Inv X pins σ H s) (r:RelV x v) (ty:tyV X.K T x H) :
    s.TypeIs v T ∧ ∀ a,v = .ref a → ∃ ob,s.heap.get? a = some ob ∧ ob.dict = none:=by
  cases x with
  | str z =>
    obtain ⟨t,rfl⟩:=r
    cases (show T = "str" from ty)
    exact ⟨typeIs_str s z t,fun _ e=>nomatch e⟩
  | int i =>
    obtain ⟨t,rfl⟩:=r
    cases (show T = "int" from ty)
    exact ⟨typeIs_int s i t,fun _ e=>nomatch e⟩
  | ref p =>
    cases r
    rcases ty with ⟨rfl,xs,hq⟩ | ⟨rfl,o,hk,hc,hd⟩ | ⟨rfl,hk⟩ | ⟨rfl,S,n,hk⟩
    · obtain ⟨its,_,pl,_⟩:=I.list hq
      refine ⟨pl.isList.typeIs,fun a e=>?_⟩
      cases e
      obtain ⟨o,n,e,c,hd,_⟩:=pl
      exact ⟨o,e,hd⟩
    · refine ⟨⟨o,I.kIn p o hk,hc⟩,fun a e=>?_⟩
      cases e
      exact ⟨o,I.kIn _ o hk,hd⟩
    · have z:∃ o,s.heap.get? p = some o ∧ o.ExactDict:=by
        rcases hk with ⟨kvs,hk⟩ | ⟨kvs,hk⟩
        · obtain ⟨_,_,_,_,o,_,_,e,ex,_⟩:=I.hok p _ hk
          exact ⟨o,e,ex⟩
        · obtain ⟨_,_,_,_,o,_,_,e,ex,_⟩:=I.hok p _ hk
          exact ⟨o,e,ex⟩
      obtain ⟨o,e,ex⟩:=z
      refine ⟨⟨o,e,ex.1⟩,fun a e2=>?_⟩
      cases e2
      exact ⟨o,e,ex.2.1⟩
    · obtain ⟨o,_,_,_,e,ex,_⟩:=I.hok p _ hk
      refine ⟨⟨o,e,ex.1⟩,fun a e2=>?_⟩
      cases e2
      exact ⟨o,e,ex.2.1⟩
  | _=>exact False.elim ty
def tBM0 (K:PySem.W.Frag) (T:String) (r:V → List V → Hp → VK → Prop) (to:TE):TE:=fun σ H Q=>to σ H fun x H1=>tyV K T x H1 ∧ r x [] H1 Q
def tBM (K:PySem.W.Frag) (T:String) (r:V → List V → Hp → VK → Prop) (to:TE) (t:TA):TE:=fun σ H Q=>to σ H fun x H1=>tyV K T x H1 ∧ t σ H1 fun xs H2=>r x xs H2 Q
variable {o e:Expr} {es:List Expr} {to:TE} {t:TA} {name:Str} {apos cpos:Pos} {T id:String} {r:V → List V → Hp → VK → Prop}
theorem pe_bm (pa:PlainAttrs T) (slot:Slot T name id) (hty:typeOf (.builtin id) = pure (.type "method_descriptor")) (hm:MtR X id r) (ho:PE X o to) (ha:PA X (e :: es) t)
    (hbase:attributeBase o name X.env (eval o X.env) = eval o X.env:=by rfl)
    (hfew:((backTo cpos (starEach (e :: es) X.env)).all (fun x=>!x.1) && (backToKw cpos (keywordEach [] X.env)).all (fun x=>x.1.isSome)
      && decide ((e :: es).length + ([]:List Keyword).length + (if ([]:List Keyword).isEmpty then 0 else 1) < 30)) = true:=by rfl)
    (hline:(apos.endLine == cpos.line) = true:=by rfl) (hs:starEach (e :: es) X.env = (false,eval e X.env) :: starEach es X.env:=by rfl) (hplain:(backTo cpos (starEach es X.env)).any (·.1) = false:=by rfl) :
    PE X (.Call (.Attribute o name apos) (e :: es) [] cpos) (tBM X.K T r to t):=by
  intro pins s σ H Q I h
  refine wpAny_Call_method_late hbase hfew hline rfl (thn (ho pins s σ H _ I h) fun v s1 ⟨x,H1,I1,r1,ty,q1⟩=>?_)
  obtain ⟨h1,h2⟩:=tyV_is I1 r1 ty
  refine ⟨T,id,pa,slot,hty,h1,h2,?_⟩
  have hA:=ha cpos pins s1 σ H1 _ I1 q1
  rw [hs] at hA ⊢
  refine Calls.callWith_builtin (by show (false || (backTo cpos (starEach es X.env)).any (·.1)) = false; rw [hplain] <;> rfl) (Calls.evalArgs_plain ?_)
  exact thn hA fun us s2 ⟨vs,H2,I2,r2,q2⟩=>hm pins s2 σ H2 x vs v us Q I2 r1 r2 q2
end
end L2
namespace L2
open PySem PySem.Spec PyProof.Rows
def MtM (X:Cx) (id:String) (r:V → List V → Hp → VK → Prop):Prop :=
  ∀ (pins:List (Addr × Obj)) (s:Shared) (σ:St) (H:Hp) (x:V) (xs:List V) (v:Value) (us:List Value) (Q:VK),Inv X pins σ H s → RelV x v → Vals xs us → r x xs H Q →
    wpAny (model X.prog X.w) X.A (call (.builtin id) (v :: us)) (EP X pins σ Q) X.xe s
theorem Vals.one:∀ {x:V} {us:List Value},Vals [x] us → ∃ u,us = [u] ∧ RelV x u
  | _,_,.cons r .nil=>⟨_,rfl,r⟩
theorem Vals.zero:∀ {us:List Value},Vals [] us → us = []
  | _,.nil=>rfl
section
variable {X:Cx} {pins:List (Addr × Obj)} {σ:St} {H:Hp} {s:Shared} {l b:Addr} {xs ys zs:List V}
theorem Inv.lset {its its':List Value} {n:Nat} {f:Array Value → Array Value} {t':Nat} (I:Inv X pins σ H s) (hH:H l = some (.lst xs))
    (e:s.heap.get? l = some { cls:=.type "list",data:=.seq its.toArray n }) (hf:f its.toArray = its'.toArray) (hv:Vals ys its') (hz:ys.length ≤ sizeLine) :
    Inv X pins σ (upd H l (.lst ys)) { s with heap:=s.heap.update l (Obj.mapSeq f),toks:=t' }:=by
  have q:=PySem.IsL.update e f
  rw [hf] at q
  refine I.write (x:=l) (e:=l) (by rw [hH]; exact trivial) (.inl rfl) (fun b' u hb hu=>(Heap.get?_update_other s.heap (Obj.mapSeq f) (Ne.symm hb)).trans hu) ⟨_,q⟩ ?_
  exact ⟨hz,its',_,hv,q⟩
theorem Inv.lnew {its:List Value} {t':Nat} (I:Inv X pins σ H s) (hv:Vals ys its) (hz:ys.length ≤ sizeLine) :
    Inv X pins σ (upd H s.heap.objs.size (.lst ys)) { s with heap:=s.heap.push { cls:=.type "list",data:=.seq its.toArray },toks:=t' } :=
  I.laid (fun _ _ q=>Heap.get?_push_of_some _ q) (Nat.le_refl _) ⟨hz,its,0,hv,Heap.get?_push_size _ rfl⟩
theorem Inv.fresh (I:Inv X pins σ H s):H s.heap.objs.size = none:=I.hok.fresh (Nat.le_refl _)
theorem Inv.lstM (I:Inv X pins σ H s) (hH:H l = some (.lst xs)):xs.length ≤ sizeLine ∧ ∃ (its:List Value) (n:Nat),Vals xs its ∧ xs.length = its.length ∧ s.heap.get? l = some { cls:=.type "list",data:=.seq its.toArray n }:=by
  obtain ⟨z,its,n,r,e⟩:=I.hok l _ hH
  exact ⟨z,its,n,r,r.length,e⟩
theorem notLongL {n:Nat} (h:n ≤ sizeLine):Builtin.List.listTooLong n = false:=by
  unfold Builtin.List.listTooLong
  exact decide_eq_false (by omega)
end
section
variable {X:Cx}
def rAppend:V → List V → Hp → VK → Prop:=fun x vs H Q=>∃ l xs y,x = .ref l ∧ vs = [y] ∧ H l = some (.lst xs) ∧ xs.length < sizeLine ∧ Q .non (upd H l (.lst (xs ++ [y])))
theorem mt_append:MtM X "list.append" rAppend:=by
  intro pins s σ H x vs v us Q I rx rv h
  obtain ⟨l,xs,y,rfl,rfl,hH,hz,q⟩:=h
  cases rx
  obtain ⟨u,rfl,ru⟩:=rv.one
  obtain ⟨z,its,n,r,hl,e⟩:=I.lstM hH
  refine call_meets F.slot_list_append ⟨_,e,rfl⟩ F.entry_list_append (F.args_list_append_2 _ _) (PySem.list_append l its.toArray n u (by rw [List.size_toArray]; omega)) ⟨e,?_⟩
  refine ⟨.non,_,I.lset (its':=its ++ [u]) hH e (by simp) (r.append (.cons ru .nil)) ?_,rfl,q⟩
  rw [List.length_append,List.length_singleton]
  omega
def rExtend:V → List V → Hp → VK → Prop:=fun x vs H Q=>∃ l b xs zs,x = .ref l ∧ vs = [.ref b] ∧ H l = some (.lst xs) ∧ H b = some (.lst zs) ∧ xs.length + zs.length ≤ sizeLine ∧ Q .non (upd H l (.lst (xs ++ zs)))
theorem mt_extend:MtM X "list.extend" rExtend:=by
  intro pins s σ H x vs v us Q I rx rv h
  obtain ⟨l,b,xs,zs,rfl,rfl,hH,hB,hz,q⟩:=h
  cases rx
  obtain ⟨u,rfl,ru⟩:=rv.one
  cases ru
  obtain ⟨z,its,n,r,hl,e⟩:=I.lstM hH
  obtain ⟨z2,its2,n2,r2,hl2,e2⟩:=I.lstM hB
  have hsz:its.toArray.size + its2.toArray.size ≤ sizeLine:=by rw [List.size_toArray,List.size_toArray]; omega
  have hlong:¬ (!its.toArray.isEmpty && Builtin.List.listTooLong (its.toArray.size + its2.toArray.size)) = true:=by
    rw [notLongL hsz,Bool.and_false]
    exact Bool.false_ne_true
  refine call_meets F.slot_list_extend ⟨_,e,rfl⟩ F.entry_list_extend (F.args_list_extend_2 _ _)
    (AutoSeq1.list_extend_list_list_0 l its.toArray n b its2.toArray n2 hlong (by rw [List.size_toArray]; omega) (by omega)) ⟨e,e2,?_⟩
  refine ⟨.non,_,I.lset (its':=its ++ its2) hH e (by simp) (r.append r2) ?_,rfl,q⟩
  rw [List.length_append]
  omega
def rCat:R2:=fun x y H Q=>∃ l b xs zs,x = .ref l ∧ y = .ref b ∧ H l = some (.lst xs) ∧ H b = some (.lst zs) ∧ xs.length + zs.length ≤ sizeLine ∧ ∀ p,H p = none → Q (.ref p) (upd H p (.lst (xs ++ zs)))
theorem op_cat:OpR X (binaryOp .Add) rCat:=by
  intro pins s σ H x y v u Q I rx ry h
  obtain ⟨l,b,xs,zs,rfl,rfl,hH,hB,hz,q⟩:=h
  cases rx
  cases ry
  obtain ⟨z,its,n,r,hl,e⟩:=I.lstM hH
  obtain ⟨z2,its2,n2,r2,hl2,e2⟩:=I.lstM hB
  refine PySem.P.add_list e e2 ?_ (by rw [List.size_toArray,List.size_toArray]; omega)
  have ea:its.toArray ++ its2.toArray = (its ++ its2).toArray:=by simp
  rw [ea]
  exact ⟨.ref _,_,I.lnew (t':=s.toks) (r.append r2) (by rw [List.length_append]; omega),rfl,q _ I.fresh⟩
end
section
variable {prog:Program} {w:World} {A:Around} {E:Value → Shared → Prop} {s:Shared}
set_option maxRecDepth 100000 in
end
section
variable {X:Cx}
end
end L2
namespace Att
open PySem PySem.W PySem.Calls PyProof.Rows
theorem ints_of_wellAll {P:Params} {h:Heap}:∀ (ns:List Int) (vs:List Value),WellAll P h vs (ns.map WData.int) → IntsAre vs ns:=by
  intro ns
  induction ns with
  | nil =>
    intro vs w
    rw [List.map_nil] at w
    cases w
    exact .nil
  | cons n ns ih =>
    intro vs w
    rw [List.map_cons] at w
    cases w with
    | cons a b =>
      cases a
      exact .cons _ _ (ih _ b)
theorem script_of {l:OpenLaw} {n:Nat} (hn:l.most = some n) {P:Params} {h:Heap} {args:List WData} {vals:List Value}
    (hpre:l.row.toRowW.claim.pre args = true) (hwl:WellAll P h vals args) :
    ∃ a vs ns,vals = [Value.ref a] ∧ args = [WData.list (ns.map WData.int)] ∧ h.get? a = some { cls:=.type "list",data:=.seq vs.toArray } ∧ IntsAre vs ns ∧ ns.length ≤ n:=by
  have hsh:WShape.hasAll [] args [.list .int] = true:=(pre_splitW hpre).1
  have hc:l.pre.holds [] { args:=args } = true:=(pre_splitW hpre).2
  obtain ⟨d,r,rfl,h1,h2⟩:=hasAllW_cons hsh
  obtain rfl:=hasAllW_nil h2
  obtain ⟨xs,rfl,h3⟩:=hasW_list h1
  obtain ⟨ns,rfl⟩:=items_int h3
  have hlen:ns.length ≤ n:=by
    unfold OpenLaw.pre at hc
    have h4:(WTm.not (.lt (.lit (.int (n:Int))) (.len (.arg 0)))).holds [] { args:=[.list (ns.map .int)] } = true:=by
      have h4:=(holds_andW hc).1
      rw [hn] at h4
      exact h4
    have h5:=condW_of h4 (w_not (w_lt w_lit (w_len_list (w_arg rfl))))
    rw [List.length_map] at h5
    refine Nat.le_of_not_lt fun q=>?_
    have q':(n:Int) < ((ns.length:Nat):Int):=by omega
    first
      | (rw [decide_eq_true q'] at h5; exact absurd h5 (by decide))
      | (simp at h5; omega)
  cases hwl with
  | cons w1 w2 =>
    cases w2
    cases w1 with
    | list ho hall=>exact ⟨_,_,ns,rfl,rfl,ho,ints_of_wellAll ns _ hall,hlen⟩
theorem post_true (l:OpenLaw) (args:List WData):l.row.toRowW.claim.post args (.bool true) args = true :=
  postW_of (r:=l.row.toRowW) (X:=(true == true))
    (show WShape.has [] (.bool true) .bool = true by first | rfl | decide | simp [WShape.has,WShape.arms,WShape.armsAll])
    (show (WTm.eq .res (.lit (.bool true))).value [] { args:=args,res:=some (.bool true),after:=args } = some (.bool (true == true)) from w_eq_bool (w_res rfl) w_lit) rfl
theorem attach_call {l:OpenLaw} {n:Nat} {q:Program} {loose:List Str} {XP:(Str → Option Value) → Heap → Prop} {YP:World → Heap → Prop} {d:DefRec}
    (hn:l.most = some n) (hdf:d.params.defaults = [])
    (call:∀ (w:World) (s₀ s₁:Shared) (mg mb:Str → Option Value) (fa:Addr) (o:Obj) (pm cd doc:Value) (a:Addr) (vs:List Value) (ns:List Int),
      Ground q loose [] XP w s₀ mg mb s₁.heap → YP w s₁.heap →
      s₁.heap.get? fa = some o → o.data = .func (docDef d.name d.params d.body d.scope pm cd doc) → s₁.heap.CodeRec cd d.name → mg d.name = some (.ref fa) →
      s₁.heap.get? a = some { cls:=.type "list",data:=.seq vs.toArray } → IntsAre vs ns → ns.length ≤ n → s₁.gens = #[] →
      codeAny (model l.prog w) callerA (.call (.ref fa) ⟨[.ref a],[]⟩) (fun r s'=>r = .ok (.ret (.bool true)) ∧ OldK s₁.heap s'.heap ∧ s'.os = s₁.os ∧ AllBare s'.gens) s₁) :
    WalkO q loose XP YP l.row.toRowW d [] (fun f vs=>PySem.call f vs):=by
  intro w s₀ s₁ mg mb G Y fa o pm cd doc dV kV ho hd hcd hD hmg hg args vals as hpre hlay hrd hwl hlo
  obtain rfl:dV = .none:=Dflts.none hD hdf
  obtain rfl:kV = .none:=Dflts.noKw hD
  obtain ⟨a,vs,ns,rfl,rfl,hobj,hints,hlen⟩:=script_of hn hpre hwl
  refine enter_call (codeAny_mono (call w s₀ s₁ mg mb fa o pm cd doc a vs ns G Y ho (fd_plain hd) hcd hmg hobj hints hlen hg) fun r s' hq=>?_)
  obtain ⟨rfl,h2,h3,h4⟩:=hq
  exact ⟨.inl ⟨.bool true,.bool true,[],rfl,fun _=>rfl,.bool true,post_true l _,fun _=>⟨List.Pairwise.nil,fun _ hm=>(nomatch hm)⟩⟩,h2,h3,h4⟩
section
variable {prog:Program} {w:World} {A:Around} {E:Value → Shared → Prop} {s:Shared} {K:Frag}
end
end Att
namespace L2
open PySem PySem.Spec PyProof.Rows
theorem vals_ints:∀ {vs:List Value} {ns:List Int},IntsAre vs ns → Vals (ns.map V.int) vs
  | _,_,.nil=>.nil
  | _,_,.cons n t h=>.cons ⟨t,rfl⟩ (vals_ints h)
def Only (H:Hp):Prop:=∀ b,H b = none ∨ ∃ o xs,H b = some (.frz o (.lst xs))
theorem law_call {P:Program} {w:World} {K:PySem.W.Frag} {mg mb:Str → Option Value} {CX:CXT} {k:Nat} {fa a:Addr} {fd:FuncData} {x:Str} {sp:Sp} {s₁:Shared} {vs:List Value} {ns:List Int}
    (KX:K.In s₁.heap) (hns:s₁.heap.Ns mainGlobals mg) (hb:s₁.heap.Ns builtinsNs mb) (hbb:∀ x:Str,x ≠ "__name__" → mb x = bootBuiltins x) (hlim:s₁.heap.NoLimit) (hg:s₁.gens = #[])
    (ha:s₁.heap.get? a = some { cls:=.type "list",data:=.seq vs.toArray }) (hi:IntsAre vs ns) (hl:ns.length ≤ sizeLine) (hr:Room k callerA)
    (F:∀ base:Heap,K.In base → base.Ns mainGlobals mg → FnOk P w K mg base CX k fa fd [x] sp) (hbind:∀ (s:Shared) (u:Value),BindsTo s fd ⟨[u],[]⟩ [(x,u)])
    (hsp:∀ H:Hp,Only H → SqL K H a (ns.map V.int) → sp [.ref a] H (fun v _=>v = .bl true) fun _ _ _=>False)
    (hCX:∀ H e s',CX [] H s₁ (fun _ _ _=>False) e s' → False) :
    codeAny (model P w) callerA (.call (.ref fa) ⟨[.ref a],[]⟩) (fun r s'=>r = .ok (.ret (.bool true)) ∧ OldK s₁.heap s'.heap ∧ s'.os = s₁.os ∧ AllBare s'.gens) s₁:=by
  have rv:=vals_ints hi
  have lenV:=hi.length
  have core:∀ H:Hp,Only H → SqL K H a (ns.map V.int) → HOk P w H s₁.heap → (∀ b,H b ≠ none → b = a) → (H a ≠ none → K.lookup a = none) →
      codeAny (model P w) callerA (.call (.ref fa) ⟨[.ref a],[]⟩) (fun r s'=>r = .ok (.ret (.bool true)) ∧ OldK s₁.heap s'.heap ∧ s'.os = s₁.os ∧ AllBare s'.gens) s₁:=by
    intro H hO hS hok hA hK
    have base_of:∀ {b:Addr} {o:Obj},s₁.heap.get? b = some o → H b = none → (hidT s₁.heap H).get? b = some o:=fun e n=>hidT_get e n
    have noA:∀ {b:Addr} {o:Obj} {es:Array DictEntry} {ep:Nat},s₁.heap.get? b = some o → o.data = .dict es ep → H b = none:=fun {b o es ep} e d=>by
      cases q:H b with
      | none=>rfl
      | some u =>
        have e':b = a:=hA b (by rw [q]; simp)
        subst e'
        rw [ha] at e; cases e
        have d':Data.seq vs.toArray _ = Data.dict es ep:=d
        cases d'
    have nsK:∀ {b:Addr} {m:Str → Option Value},s₁.heap.Ns b m → (hidT s₁.heap H).Ns b m:=fun {b m} ⟨o,es,ep,e,d,r⟩=>⟨o,es,ep,base_of e (noA e d),d,r⟩
    have hKb:K.In (hidT s₁.heap H):=fun b o e=>base_of (KX b o e) (by
      cases q:H b with
      | none=>rfl
      | some u =>
        have e':b = a:=hA b (by rw [q]; simp)
        subst e'
        rw [hK (by rw [q]; simp)] at e; cases e)
    have hM:Mod K mg (hidT s₁.heap H):=⟨hKb,nsK hns,⟨mb,nsK hb,hbb⟩,let ⟨mc,h1,h2⟩:=hlim; ⟨mc,nsK h1,h2⟩⟩
    have e0:Env0 P w K mg (hidT s₁.heap H) callerA [] s₁ H:=⟨rfl,hM,fun b o e=>of_hidT e,Nat.le_of_eq (hidT_size _ _),trivial,fun b hb=>absurd (show b ∈ ([]:List Addr) from hb) (by simp),hok,.of_eq hg⟩
    refine codeAny_mono ((F _ hKb (nsK hns)).run callerA [] s₁ H ⟨[.ref a],[]⟩ [.ref a] [.ref a] _ _ hr e0 (hbind s₁ (.ref a)) (.cons rfl .nil) (hsp H hO hS)) fun r s' h=>?_
    cases r with
    | error e=>exact (hCX H e s' h).elim
    | ok fl =>
      cases fl with
      | next=>exact False.elim h
      | brk=>exact False.elim h
      | cont=>exact False.elim h
      | ret u =>
        obtain ⟨v,H',os,bare,un,hok',r',q⟩:=h
        have q':v = .bl true:=q
        subst q'
        obtain rfl:u = Value.bool true:=r'
        refine ⟨rfl,OldK.of_keep fun b o e=>?_,os,bare⟩
        cases q:H b with
        | none=>exact un.keep b o e q (by intro z; exact absurd (show b ∈ ([]:List Addr) from z) (by simp)) (by simp)
        | some u =>
          rcases hO b with z | ⟨ob,xs,z⟩
          · rw [q] at z; cases z
          · have z2:=un.frzs b ob _ z
            obtain ⟨e1,_⟩:=hok b _ z
            obtain ⟨e2,_⟩:=hok' b _ z2
            rw [e] at e1; cases e1
            exact e2
  cases hk:K.lookup a with
  | some o =>
    have e:=KX a o hk
    rw [ha] at e
    cases e
    refine core (fun _=>none) (fun _=>.inl rfl) (.inr ⟨_,vs.toArray,_,hk,rfl,rfl,rfl,by rw [List.size_toArray,lenV]; exact hl,by simpa using rv⟩) (fun b u z=>by have z':(none:Option HO) = some u:=z; cases z') (fun b z=>absurd rfl z) fun z=>absurd rfl z
  | none =>
    refine core (fun b=>if b = a then some (.frz { cls:=.type "list",data:=.seq vs.toArray } (.lst (ns.map V.int))) else none) (fun b=>?_) (.inl (.inr ⟨{ cls:=.type "list",data:=.seq vs.toArray },if_pos rfl⟩)) (fun b u z=>?_) (fun b z=>?_) fun _=>hk
    · by_cases hb:b = a
      · exact .inr ⟨_,_,if_pos hb⟩
      · exact .inl (if_neg hb)
    · by_cases hb:b = a
      · have z':=(if_pos hb).symm.trans z
        cases z'
        subst hb
        exact ⟨ha,by rw [List.length_map]; exact hl,vs,_,rv,ha⟩
      · have z':=(if_neg hb).symm.trans z
        cases z'
    · by_cases hb:b = a
      · exact hb
      · exact absurd (if_neg hb) z
end L2
namespace L2
open PySem PySem.Spec PyProof.Rows
abbrev KOf {K:PySem.W.Frag} {h:Heap} (_:K.In h):PySem.W.Frag:=K
theorem walk_of {l:PySem.W.OpenLaw} {n k:Nat} {q:Program} {loose:List Str} {XP:(Str → Option Value) → Heap → Prop} {YP:World → Heap → Prop} {d:DefRec} {K:Params → PySem.W.Frag} {CX:World → CXT} {sp:World → Sp} {x:Str}
    (hn:l.most = some n) (hn2:n ≤ sizeLine) (hdf:d.params.defaults = []) (hr:Room k callerA)
    (hY:∀ (w:World) (h:Heap),YP w h → (K w.params).In h)
    (F:∀ (w:World) (mg:Str → Option Value) (fa:Addr) (h:Heap),(K w.params).In h → h.Ns mainGlobals mg → mg d.name = some (.ref fa) →
      ∃ fd:FuncData,(∀ (s:Shared) (u:Value),BindsTo s fd ⟨[u],[]⟩ [(x,u)]) ∧
        ∀ base:Heap,(K w.params).In base → base.Ns mainGlobals mg → FnOk l.prog w (K w.params) mg base (CX w) k fa fd [x] (sp w))
    (hsp:∀ (w:World) (H:Hp) (a:Addr) (ns:List Int),ns.length ≤ n → Only H → SqL (K w.params) H a (ns.map V.int) → sp w [.ref a] H (fun v _=>v = .bl true) fun _ _ _=>False)
    (hCX:∀ (w:World) (H:Hp) (s:Shared) (e:Value) (s':Shared),CX w [] H s (fun _ _ _=>False) e s' → False) :
    PySem.W.WalkO q loose XP YP l.row.toRowW d [] (fun f vs=>PySem.call f vs):=by
  refine Att.attach_call hn hdf fun w s₀ s₁ mg mb fa o pm cd doc a vs ns G Y ho hd hcd hmg hobj hints hlen hg=>?_
  have KX:=hY w _ Y
  obtain ⟨fd,hb,hF⟩:=F w mg fa _ KX G.T.g hmg
  exact law_call KX G.T.g G.T.b G.T.builtins G.T.nolimit hg hobj hints (Nat.le_trans hlen hn2) hr hF hb (fun H hO hS=>hsp w H a ns hlen hO hS) fun H e s'=>hCX w H s₁ e s'
end L2
namespace L2
open PySem PySem.Spec PyProof.Rows
def inClass (s:Stmt) (j:Nat):Stmt:=match s with
  | .ClassDef _ _ _ body _ _ _ _ _ _ _=>body.getD j (.Pass ⟨0,0,0,0⟩)
  | _=>.Pass ⟨0,0,0,0⟩
def defArgs (s:Stmt):Arguments:=match s with
  | .FunctionDef _ a _ _ _ _ _ _ _ _=>a
  | _=>{ posonlyargs:=[],args:=[],vararg:=none,kwonlyargs:=[],kw_defaults:=[],kwarg:=none,defaults:=[] }
def defBody (s:Stmt):List Stmt:=match s with
  | .FunctionDef _ _ b _ _ _ _ _ _ _=>b
  | _=>[]
def defScope (s:Stmt):Scope:=match s with
  | .FunctionDef _ _ _ _ _ _ sc _ _ _=>sc
  | _=>{ kind:=.function,names:=[],isGenerator:=false,isCoroutine:=false }
abbrev CX0:CXT:=fun _ _ _ _ _ _=>False
abbrev E0:XK:=fun _ _ _=>False
theorem pass0 {X:Cx}:Passes CX0 X E0:=fun _ _ _ _ _ _ _ h=>h.elim
structure Fun (K:PySem.W.Frag) (x qual:Str) (st:Stmt) (f:Addr) (fd:FuncData):Prop where
  ex:∃ (oc:Value) (od:Option Addr) (kV doc pm:Value) (an:Option Addr) (cdv ct:Value) (osl:Array (Option Value)),
    fd = PySem.W.fnOf x qual (defArgs st) (defBody st) (defScope st) .none kV doc pm an cdv ct ∧ K.lookup f = some ⟨oc,od,.func fd,osl⟩ ∧ PySem.W.codeIn K cdv qual = true
  kp:PySem.W.keepIn K (.ref f) = true
section
variable {P:Program} {w:World} {K:PySem.W.Frag} {mg:Str → Option Value} {base:Heap}
theorem Fun.ok {x qual:Str} {st:Stmt} {f:Addr} {fd:FuncData} {N ps:List Str} {k:Nat} {sp:Sp} (F:Fun K x qual st f fd) (S:FnScope N ps (defScope st)) (len:∀ vs H Q E,sp vs H Q E → vs.length = ps.length)
    (hbody:∀ (cdv:Value) (A:Around) (outer:List Env) (s:Shared) (H:Hp) (vs:List V) (Q:VK) (E:XK),Room k (A.deeper (envOfC qual (defScope st) s.heap.objs.size f cdv)) → sp vs H Q E →
      ∃ t,PSs (cxOf CX0 P w K mg base N qual (defScope st) f cdv A outer s H E).nox (defBody st) t ∧ t { nx:=fun _ H'=>Q .non H',rt:=Q } (start N vs) H):FnOk P w K mg base CX0 (k + 1) f fd ps sp:=by
  obtain ⟨oc,od,kV,doc,pm,an,cdv,ct,osl,rfl,lk,hcd⟩:=F.ex
  refine fn_of lk hcd S len fun A outer s H vs Q E hr hsp=>?_
  obtain ⟨t,h,q⟩:=hbody cdv A outer s H vs Q E hr hsp
  exact ⟨t,h.nox,q⟩
theorem Fun.binds {x qual:Str} {st:Stmt} {f:Addr} {fd:FuncData} {ps:List Str} (F:Fun K x qual st f fd)
    (h:∀ (kV doc pm:Value) (an:Option Addr) (cdv ct:Value) (us:List Value),us.length = ps.length → bindArgs (PySem.W.fnOf x qual (defArgs st) (defBody st) (defScope st) .none kV doc pm an cdv ct) ⟨us,[]⟩ = pure (ps.zip us)):Binds K fd ps []:=by
  obtain ⟨oc,od,kV,doc,pm,an,cdv,ct,osl,rfl,lk,hcd⟩:=F.ex
  exact .all (h kV doc pm an cdv ct)
theorem fun_mk {x qual:Str} {st:Stmt} {f:Addr} {oc:Value} {od an:Option Addr} {osl:Array (Option Value)} {kV doc pm cdv ct:Value} (l:K.lookup f = some ⟨oc,od,.func (PySem.W.fnOf x qual (defArgs st) (defBody st) (defScope st) .none kV doc pm an cdv ct),osl⟩)
    (c:PySem.W.codeIn K cdv qual = true) (k:PySem.W.keepIn K (.ref f) = true):Fun K x qual st f (PySem.W.fnOf x qual (defArgs st) (defBody st) (defScope st) .none kV doc pm an cdv ct):=⟨⟨oc,od,kV,doc,pm,an,cdv,ct,osl,rfl,l,c⟩,k⟩
end
theorem small1000 {n:Nat} (h:n ≤ 1000):n < sizeLine:=Nat.lt_of_le_of_lt h (by decide)
section
variable {X:Cx}
theorem pv (i:Nat) {x:Str} {pos:Pos} (hN:X.N[i]? = some x:=by rfl) (hv:Vis X.env.scope x:=by first | exact Or.inl rfl | exact Or.inr (Or.inl rfl) | exact Or.inr (Or.inr rfl)) (hd:(x == ("__debug__":Str)) = false:=by decide)
    (hcd:(x == ("__classdict__":Str)) = false:=by decide):PE X (.Name x pos) (tVar i):=pe_var hN hv hd hcd
end
theorem iteF {A B:Prop} (h:B):if false = true then A else B:=by
  rw [if_neg Bool.false_ne_true]
  exact h
theorem iteT {A B:Prop} (h:A):if true = true then A else B:=by
  rw [if_pos rfl]
  exact h
theorem ite2 {c A B:Prop} [Decidable c] (h1:c → A) (h2:¬ c → B):if c then A else B:=by
  by_cases h:c
  · rw [if_pos h]
    exact h1 h
  · rw [if_neg h]
    exact h2 h
def Same (H H':Hp):Prop:=∀ b o,H b = some o → H' b = some o
theorem Same.refl (H:Hp):Same H H:=fun _ _ h=>h
theorem Same.trans {H H1 H2:Hp} (a:Same H H1) (b:Same H1 H2):Same H H2:=fun c o h=>b c o (a c o h)
theorem Same.free {H H':Hp} (e:Same H H') {l:Addr} (h:H' l = Option.none):H l = Option.none:=by
  cases q:H l with
  | none=>rfl
  | some o =>
    rw [e l o q] at h
    cases h
theorem Same.seq {K:PySem.W.Frag} {H H':Hp} {a:Addr} {xs:List V} (e:Same H H') (h:SqL K H a xs):SqL K H' a xs:=by
  rcases h with (h | ⟨o,h⟩) | h
  · exact .inl (.inl (e _ _ h))
  · exact .inl (.inr ⟨o,e _ _ h⟩)
  · exact .inr h
end L2
namespace L2
open PySem PySem.Spec PyProof.Rows
section
variable {P:Program} {w:World} {H:Hp} {h:Heap} {a:Addr} {o:HO}
theorem HOk.track (x:HOk P w H h) (hn:H a = none) (new:ObjOk P w (upd H a o) h a o):HOk P w (upd H a o) h:=fun b u e=>by
  by_cases hb:b = a
  · subst hb; rw [upd_same] at e; cases e; exact new
  · rw [upd_ne hb] at e
    exact (x b u e).stay (fun c v _ q=>q) (fun c q=>by rw [upd_ne (ne_of_none q hn)]; exact q) fun c xs q=>by rw [upd_ne (ne_of_none q hn)]; exact q
end
def Its (x:Str):It:=⟨fun i _=>i < x.cps.size,fun i H v H'=>H' = H ∧ ∃ c,x.cps[i]? = some c ∧ v = .str ⟨#[c]⟩,fun i _=>i = x.cps.size⟩
theorem walks_str {prog:Program} {w:World} {A:Around} (hh:A.handled = none) (I:Addr) (x:Str) (t:Tok):Walks prog w A I [I] [I] x.cps.size (SignAt x) (fun i h=>h.IsStrIter I (strIterType x) x t i):=by
  cases ha:x.cps.all (· < 128)
  · have e:strIterType x = "str_iterator":=by simp [strIterType,ha]
    rw [e]; exact Walks.strWide hh I x t
  · have e:strIterType x = "str_ascii_iterator":=by simp [strIterType,ha]
    rw [e]; exact Walks.strAscii hh I x t
theorem turn_str {P:Program} {w:World} {K:PySem.W.Frag} {tg:Expr} (it:Addr) (x:Str) (t:Tok):Turn P w K tg (Its x) [it] it (fun i h=>h.IsStrIter it (strIterType x) x t i) where
  mem:=by simp
  obj:=fun i h st b hb=>by
    have e:b = it:=by simpa using hb
    subst e
    obtain ⟨o,ho,_,hd⟩:=st
    exact ⟨o,ho,fun v q=>by rw [hd] at q; cases q⟩
  keep:=fun i h h' st k=>by
    obtain ⟨o,ho,r⟩:=st
    exact ⟨o,k it (by simp) o ho,r⟩
  item:=by
    intro X hP hw hK hc i pins s σ H E I hf st hg
    subst hP hw hK
    obtain ⟨f0,f1,f2,f3,f4,f5⟩:=hf it (by simp)
    refine (walks_str (I.ok.hd hc) it x t).item i s _ _ hg st fun v h' tk hv st' kk=>?_
    obtain ⟨c,u,hx,rfl⟩:=hv
    have I1:Inv X pins σ H { s with heap:=h',toks:=tk }:=I.turned (fun b o hb e=>kk b o (by simpa using hb) e) f0 f1 f3 f4 f5
    obtain ⟨o,ho,hcl,hd⟩:=id st'
    refine ⟨_,rfl,go_of (s:={ s with heap:=h',toks:=tk }) (n:=strIterType x) ho hcl hd ?_ ⟨.str ⟨#[c]⟩,H,I1,⟨u,rfl⟩,⟨rfl,c,hx,rfl⟩,st',fun b hb=>(hf b hb).1⟩⟩
    unfold strIterType; split <;> decide
  done:=by
    intro X hP hw hK hc i pins s σ H E I hf st hg
    subst hP hw hK
    obtain ⟨f0,f1,f2,f3,f4,f5⟩:=hf it (by simp)
    have hg':i = x.cps.size:=hg
    subst hg'
    exact (walks_str (I.ok.hd hc) it x t).done s _ _ st fun h' tk kk=>⟨rfl,I.turned (fun b o hb e=>kk b o (by simpa using hb) e) f0 f1 f3 f4 f5⟩
  self:=fun A i s Q E st h=>by
    cases ha:x.cps.all (· < 128)
    · have e:strIterType x = "str_iterator":=by simp [strIterType,ha]
      rw [e] at st; exact wpAny_pyIter_striter_wide st h
    · have e:strIterType x = "str_ascii_iterator":=by simp [strIterType,ha]
      rw [e] at st; exact wpAny_pyIter_striter_ascii st h
def iStr (tl:TE):TI:=fun σ H R=>tl σ H fun x H1=>∃ z,x = .str z ∧ R (Its z) H1
theorem pi_str {X:Cx} {tg l:Expr} {tl:TE} (hl:PE X l tl):PI X tg l (iStr tl):=by
  intro pins s σ H R I h
  refine thn (hl pins s σ H _ I h) fun v s1 ⟨x,H1,I1,r1,q1⟩=>?_
  obtain ⟨z,e,q⟩:=q1
  subst e
  obtain ⟨t,rfl⟩:=r1
  refine wpAny_pyIter_strU ?_
  refine ⟨s1.heap.objs.size,[s1.heap.objs.size],_,_,H1,rfl,I1.kept (t':=s1.toks) fun b o e=>Heap.get?_push_of_some _ e,turn_str _ z t,⟨_,Heap.get?_push_size _ rfl,rfl,rfl⟩,fun b hb=>?_,q⟩
  have e:b = s1.heap.objs.size:=by simpa using hb
  subst e
  exact I1.fpOk (Nat.le_refl _) (I1.hok.fresh (Nat.le_refl _))
section
variable {prog:Program} {w:World} {A:Around} {R:Result → Shared → Prop} {s:Shared}
theorem compLoop_go {elt target iter:Expr} {ifs:List Expr} {scope:Scope} {pos:Pos} {it acc:Value} {env:Env} (I:Nat → Shared → Prop)
    (turn:∀ n s,I n s → wpAny (model prog w) A (pyNext it) (fun r s₁=>match r with
      | none=>R (.ok .next) s₁
      | some v=>wpAny (model prog w) A (letOwnedTupleGo target it v) (fun _ s₁'=>wpAny (model prog w) A (assign target env v) (fun _ s₂ =>
          wpAny (model prog w) A (forIn ifs true fun c r=>if r = true then do let ok ← isTrue c env (eval c env); pure (ForInStep.yield ok) else pure (ForInStep.yield r)) (fun ok s₃ =>
            if ok = true then wpAny (model prog w) A (eval elt env) (fun x s₄ =>
              wpAny (model prog w) A (call (.builtin "list.append") [acc,x]) (fun _ s₅=>∃ m,m < n ∧ I m s₅) (fun _ _=>False) s₄) (fun _ _=>False) s₃
            else ∃ m,m < n ∧ I m s₃) (fun _ _=>False) s₂) (fun _ _=>False) s₁') (fun _ _=>False) s₁) (fun _ _=>False) s)
    (n:Nat) (h:I n s) :
    codeAny (model prog w) A (.compLoop (.ListComp elt [⟨target,iter,ifs,0⟩] scope pos) 0 it acc env) R s:=by
  refine codeAny_loop rfl I (fun n s hI=>?_) n h
  show wpAny _ A ((compTurn (.ListComp elt [⟨target,iter,ifs,0⟩] scope pos) 0 it acc env).onRaise (fun x=>do noteFrame x env; theTreesLotGoes x)) _ _ s
  refine wpAny_noted ?_
  rw [compTurn_list]
  refine wpAny_bind (wpAny_standAt (wpAny_bind (wpAny_mono (turn n s hI) (fun r s₁ h₁=>?_) fun _ _ h'=>h'.elim)))
  cases r with
  | none=>exact wpAny_pure h₁
  | some v =>
    refine wpAny_bind (wpAny_mono h₁ (fun _ s₁' h₁'=>wpAny_bind (wpAny_mono h₁' (fun _ s₂ h₂=>wpAny_bind (wpAny_mono h₂ (fun ok s₃ h₃=>?_) fun _ _ h'=>h'.elim)) fun _ _ h'=>h'.elim)) fun _ _ h'=>h'.elim)
    cases ok with
    | false=>exact wpAny_pure ⟨rfl,h₃⟩
    | true =>
      exact wpAny_bind (wpAny_bind (wpAny_mono h₃ (fun x s₄ h₄=>wpAny_bind (wpAny_mono h₄ (fun _ s₅ h₅=>wpAny_pure (wpAny_pure ⟨rfl,h₅⟩)) fun _ _ h'=>h'.elim)) fun _ _ h'=>h'.elim))
end
def clos (env:Env):List (Str × NameKind) → List (Str × Addr) → List (Str × Addr)
  | [],acc=>acc
  | (n,k) :: r,acc=>clos env r (if k == .free then (n,(env.cells.lookup n).getD 0) :: acc else acc)
theorem closureFor_clos {scope:Scope} {env:Env} (h:∀ y ∈ scope.names,y.2 = .free → ∃ c,env.cells.lookup y.1 = some c):closureFor scope env = pure (clos env scope.names []):=by
  simp only [closureFor]
  suffices hh:∀ (l:List (Str × NameKind)) (acc:List (Str × Addr)),(∀ y ∈ l,y.2 = .free → ∃ c,env.cells.lookup y.1 = some c) →
      (forIn l acc fun x r=>if (x.2 == NameKind.free) = true then do let a ← cellOf env x.1; pure (ForInStep.yield ((x.1,a) :: r)) else pure (ForInStep.yield r):Sem (List (Str × Addr))) = pure (clos env l acc) by
    have:=hh scope.names [] h
    simp only [bind_pure]
    exact this
  intro l
  induction l with
  | nil=>intro acc _; rfl
  | cons y r ih =>
    intro acc hy
    obtain ⟨n,k⟩:=y
    rw [List.forIn_cons]
    cases hk:(k == NameKind.free) with
    | true =>
      obtain ⟨c,hc⟩:=hy (n,k) List.mem_cons_self (by simpa using hk)
      have e1:cellOf env n = pure c:=by unfold cellOf; rw [hc]
      simp only [hk,if_true,e1,pure_bind]
      rw [ih _ fun z hz=>hy z (List.mem_cons_of_mem _ hz)]
      simp only [clos,hk,if_true,hc,Option.getD_some]
    | false =>
      simp only [hk,Bool.false_eq_true,if_false,pure_bind]
      rw [ih _ fun z hz=>hy z (List.mem_cons_of_mem _ hz)]
      simp only [clos,hk,Bool.false_eq_true,if_false]
theorem clos_val {env:Env} {x:Str} {c:Addr}:∀ {l:List (Str × NameKind)} {acc:List (Str × Addr)},(∀ y ∈ l,y.2 = .free → ∃ c,env.cells.lookup y.1 = some c) → (acc.lookup x = some c → env.cells.lookup x = some c) → (clos env l acc).lookup x = some c → env.cells.lookup x = some c
  | [],_,_,ha,e=>ha e
  | (n,k) :: r,acc,hl,ha,e=>by
    refine clos_val (l:=r) (fun z hz=>hl z (List.mem_cons_of_mem _ hz)) (fun q=>?_) e
    cases hk:(k == NameKind.free) with
    | false=>rw [hk] at q; exact ha q
    | true =>
      rw [hk] at q
      obtain ⟨c',hc⟩:=hl (n,k) List.mem_cons_self (by simpa using hk)
      simp only [if_true,hc,Option.getD_some,List.lookup_cons] at q
      cases hx:(x == n) with
      | true=>rw [hx] at q; cases q; rw [show x = n from by simpa using hx]; exact hc
      | false=>rw [hx] at q; exact ha q
theorem clos_mem {env:Env} {x:Str} {c:Addr}:∀ {l:List (Str × NameKind)} {acc:List (Str × Addr)},(clos env l acc).lookup x = some c → acc.lookup x = some c ∨ (x,NameKind.free) ∈ l
  | [],_,e=>.inl e
  | (n,k) :: r,acc,e=>by
    rcases clos_mem (l:=r) e with q | q
    · cases hk:(k == NameKind.free) with
      | false=>rw [hk] at q; exact .inl q
      | true =>
        rw [hk] at q
        simp only [if_true,List.lookup_cons] at q
        cases hx:(x == n) with
        | true =>
          have e1:x = n:=by simpa using hx
          have e2:k = NameKind.free:=by simpa using hk
          subst e1 e2
          exact .inr List.mem_cons_self
        | false=>rw [hx] at q; exact .inl q
    · exact .inr (List.mem_cons_of_mem _ q)
theorem clos_has {env:Env} {x:Str}:∀ {l:List (Str × NameKind)} {acc:List (Str × Addr)},(∃ c,acc.lookup x = some c) ∨ (x,NameKind.free) ∈ l → ∃ c,(clos env l acc).lookup x = some c
  | [],_,h=>h.elim (fun z=>z) fun z=>nomatch z
  | (n,k) :: r,acc,h=>by
    refine clos_has (l:=r) ?_
    rcases h with ⟨c,h⟩ | h
    · refine .inl ?_
      cases hk:(k == NameKind.free) with
      | false=>exact ⟨c,h⟩
      | true =>
        simp only [if_true,List.lookup_cons]
        cases hx:(x == n) with
        | true=>exact ⟨_,rfl⟩
        | false=>exact ⟨c,h⟩
    · rcases List.mem_cons.mp h with h | h
      · cases h
        refine .inl ?_
        rw [if_pos (by rfl),List.lookup_cons]
        exact ⟨_,by rw [show (x == x) = true from by simp]⟩
      · exact .inr h
theorem lookup_mem {α:Type} {x:Str} {k:α}:∀ {l:List (Str × α)},l.lookup x = some k → (x,k) ∈ l
  | (n,z) :: r,e=>by
    rw [List.lookup_cons] at e
    cases hx:(x == n) with
    | true=>rw [hx] at e; cases e; rw [show x = n from by simpa using hx]; exact List.mem_cons_self
    | false=>rw [hx] at e; exact List.mem_cons_of_mem _ (lookup_mem e)
theorem relab_one (env:Env) (n:Str) (z:NameKind):∃ z',(if (z == NameKind.free && env.scope.kind == .function && env.kindOf n == some .cell) = true then (n,NameKind.cell) else (n,z)) = (n,z') ∧ (z' = z ∨ (z = .free ∧ z' = .cell)):=by
  by_cases hc:(z == NameKind.free && env.scope.kind == .function && env.kindOf n == some .cell) = true
  · rw [if_pos hc]
    simp only [Bool.and_eq_true] at hc
    exact ⟨_,rfl,.inr ⟨by simpa using hc.1.1,rfl⟩⟩
  · rw [if_neg hc]; exact ⟨_,rfl,.inl rfl⟩
theorem relabel_kind {env:Env} {x:Str}:∀ {l:List (Str × NameKind)} {k:NameKind},l.lookup x = some k →
    ((l.map fun (n,k)=>if (k == NameKind.free && env.scope.kind == .function && env.kindOf n == some .cell) then (n,NameKind.cell) else (n,k)).lookup x = some k) ∨
    (k = .free ∧ (l.map fun (n,k)=>if (k == NameKind.free && env.scope.kind == .function && env.kindOf n == some .cell) then (n,NameKind.cell) else (n,k)).lookup x = some .cell)
  | (n,z) :: r,k,e=>by
    obtain ⟨z',e1,e2⟩:=relab_one env n z
    have ih:=fun h=>relabel_kind (env:=env) (x:=x) (l:=r) (k:=k) h
    rw [List.lookup_cons] at e
    rw [List.map_cons]
    dsimp only
    rw [e1,List.lookup_cons]
    cases hx:(x == n) with
    | true =>
      rw [hx] at e
      cases e
      rcases e2 with e2 | ⟨e2,e3⟩
      · rw [e2]; exact .inl rfl
      · rw [e3]; exact .inr ⟨e2,rfl⟩
    | false=>rw [hx] at e; exact ih e
theorem relabel_none {env:Env} {x:Str}:∀ {l:List (Str × NameKind)},l.lookup x = none →
    (l.map fun (n,k)=>if (k == NameKind.free && env.scope.kind == .function && env.kindOf n == some .cell) then (n,NameKind.cell) else (n,k)).lookup x = none
  | [],_=>rfl
  | (n,z) :: r,e=>by
    obtain ⟨z',e1,e2⟩:=relab_one env n z
    have ih:=fun h=>relabel_none (env:=env) (x:=x) (l:=r) h
    rw [List.lookup_cons] at e
    rw [List.map_cons]
    dsimp only
    rw [e1,List.lookup_cons]
    cases hx:(x == n) with
    | true=>rw [hx] at e; cases e
    | false=>rw [hx] at e; exact ih e
structure CompScope (N:List Str) (osc scope:Scope) (own cap:List Str) (ix:List Nat):Prop where
  kind:scope.kind = .function
  cell:∀ y ∈ scope.names,y.2 ≠ .cell
  names:∀ y ∈ scope.names,y.2 = .local → scope.names.lookup y.1 = some .local
  free:∀ y ∈ scope.names,y.2 = .free → y.1 ∈ cap
  ownL:∀ x ∈ own,scope.names.lookup x = some .local
  capL:∀ x ∈ cap,scope.names.lookup x = some .free
  out:∀ x ∈ cap,osc.names.lookup x = some .cell ∨ osc.names.lookup x = some .free
  ixL:ix.map (fun i=>N[i]?) = cap.map some
  nd:(own ++ cap).Nodup
def Cx.comp (X:Cx) (scope:Scope) (own cap:List Str) (C:Addr) (s₀:Shared) (H₀:Hp) (ex:List Addr) (pn:List (Addr × Obj)):Cx :=
  { X with N:=own ++ cap,s₀:=s₀,H₀:=H₀,env:=compEnvC scope (clos X.env scope.names []) C X.env,outer:=X.stack,ex:=ex,fn:=fun x=>own.contains x,pn:=pn,xe:=fun _ _=>False }
def capS (σ:St) (own:List Str) (ix:List Nat):St:=own.map (fun _=>none) ++ ix.map (fun i=>(σ[i]?).join)
section
variable {X:Cx} {pins:List (Addr × Obj)} {σ:St} {H:Hp} {s:Shared} {scope:Scope} {own cap:List Str} {ix:List Nat}
theorem CompScope.has (S:CompScope X.N X.env.scope scope own cap ix) (ok:X.Ok):∀ y ∈ scope.names,y.2 = .free → ∃ c,X.env.cells.lookup y.1 = some c:=fun y hy hf=>ok.has y.1 (S.out y.1 (S.free y hy hf))
theorem Inv.comp (I:Inv X pins σ H s) (S:CompScope X.N X.env.scope scope own cap ix) {fp:List Addr} (hf:∀ b ∈ fp,FpOk X pins H b) (ho:∀ b ∈ fp,∃ o,s.heap.get? b = some o)
    {h₁:Heap} {tk:Nat} {C:Addr} {m:Str → Option Value} (hC:s.heap.objs.size ≤ C) (old:∀ b o,s.heap.get? b = some o → h₁.get? b = some o) (hns:h₁.Ns C m) :
    Inv (X.comp scope own cap C s H fp (X.pn ++ pins)) [] (capS σ own ix) H { s with heap:=h₁,toks:=tk }:=by
  have cv:∀ x c,(clos X.env scope.names []).lookup x = some c → X.env.cells.lookup x = some c:=fun x c e=>clos_val (S.has I.ok) (fun q=>by simp at q) e
  have cc:∀ x c,(clos X.env scope.names []).lookup x = some c → x ∈ cap:=fun x c e=>by
    rcases clos_mem e with q | q
    · cases q
    · exact S.free _ q rfl
  have kk:∀ x,((compEnvC scope (clos X.env scope.names []) C X.env).kindOf x = some .cell ∨ (compEnvC scope (clos X.env scope.names []) C X.env).kindOf x = some .free) → x ∈ cap:=fun x hx=>by
    cases e:scope.names.lookup x with
    | none =>
      have q:=relabel_none (env:=X.env) e
      rcases hx with hx | hx
      · have hx':_ = some NameKind.cell:=hx
        exact nomatch q.symm.trans hx'
      · have hx':_ = some NameKind.free:=hx
        exact nomatch q.symm.trans hx'
    | some k =>
      have nc:k ≠ .cell:=S.cell _ (lookup_mem e)
      rcases relabel_kind (env:=X.env) e with q | ⟨q,_⟩
      · rcases hx with hx | hx
        · have hx':_ = some NameKind.cell:=hx
          exact absurd (Option.some.inj (q.symm.trans hx')) nc
        · have hx':_ = some NameKind.free:=hx
          exact S.free _ (lookup_mem e) (Option.some.inj (q.symm.trans hx'))
      · exact S.free _ (lookup_mem e) q
  have capk:∀ x ∈ cap,(compEnvC scope (clos X.env scope.names []) C X.env).kindOf x = some .cell ∨ (compEnvC scope (clos X.env scope.names []) C X.env).kindOf x = some .free:=fun x hx=>by
    rcases relabel_kind (env:=X.env) (S.capL x hx) with q | ⟨_,q⟩
    · exact .inr q
    · exact .inl q
  have lt:∀ {b:Addr} {o:Obj},s.heap.get? b = some o → b ≠ C:=fun e=>Nat.ne_of_lt (Nat.lt_of_lt_of_le (Heap.lt_size e) hC)
  have hfs:∀ b,b ∈ frs X.stack → b ∈ X.env.locals :: X.fs:=I.stkSub
  refine ⟨⟨I.ok.mod,S.kind,I.ok.glob,I.ok.blt,hC,fun x y c e1 e2=>I.ok.inj x y c (cv x c e1) (cv y c e2),fun x hx=>clos_has (.inr (lookup_mem (S.capL x (kk x hx)))),fun x c hx e=>?_,I.ok.hd,I.ok.frames,.inl rfl,fun b hb=>?_,
    I.bs,Nat.le_trans I.ok.bsz I.sz,fun b o e hb=>?_,fun b hb hb'=>?_,I.stack,I.stkFree⟩,rfl,I.bare,Un.kept old,?_,fun x c e=>?_,I.hok.fresh hC,fun x c e=>I.freeC x c (cv x c e),fun p hp=>?_,I.hok.kept old,?_⟩
  · exfalso
    have h1:x ∈ own:=by simpa [Cx.comp] using hx
    have h2:x ∈ cap:=cc x c e
    exact (List.nodup_append.mp S.nd).2.2 x h1 x h2 rfl
  · obtain ⟨o,e⟩:=ho b hb
    exact ⟨lt e,fun x c q=>(hf b hb).2.2.2.2.1 x c (cv x c q)⟩
  · rcases (hf b hb).2.2.2.1 with z | z
    · exact I.ok.noex b o e z
    · exact absurd (Nat.lt_of_lt_of_le (Heap.lt_size e) (Nat.le_trans I.ok.bsz z)) (Nat.lt_irrefl _)
  · rcases List.mem_cons.mp (hfs b hb') with z | z
    · exact (hf b hb).2.1 z
    · exact (hf b hb).2.2.1 z
  · refine ⟨m,hns,fun i x v e1 e2 _=>?_⟩
    by_cases hi:i < own.length
    · have e3:(capS σ own ix)[i]? = some none:=by
        unfold capS
        rw [List.getElem?_append_left (by simpa using hi),List.getElem?_map]
        rw [List.getElem?_eq_getElem hi]; rfl
      rw [e3] at e2; cases e2
    · have hj:own.length ≤ i:=Nat.not_lt.mp hi
      have e1':cap[i - own.length]? = some x:=by
        have:(own ++ cap)[i]? = some x:=e1
        rwa [List.getElem?_append_right hj] at this
      have e4:(ix.map (fun i=>X.N[i]?))[i - own.length]? = some (some x):=by rw [S.ixL,List.getElem?_map,e1']; rfl
      rw [List.getElem?_map] at e4
      cases q:ix[i - own.length]? with
      | none=>rw [q] at e4; cases e4
      | some j =>
        rw [q] at e4
        have hNj:X.N[j]? = some x:=Option.some.inj e4
        have e5:(σ[j]?).join = some v:=by
          unfold capS at e2
          rw [List.getElem?_append_right (by simpa using hj),List.getElem?_map,List.length_map,q] at e2
          exact Option.some.inj e2
        have e6:σ[j]? = some (some v):=by
          cases r:σ[j]? with
          | none=>rw [r] at e5; cases e5
          | some z=>rw [r] at e5; exact congrArg some e5
        have hx:x ∈ cap:=List.mem_of_getElem? e1'
        obtain ⟨mo,hn,hl⟩:=I.loc
        obtain ⟨u,ru,lu⟩:=hl j x v hNj e6 (.inr (S.out x hx))
        refine ⟨u,ru,.inr ⟨capk x hx,?_⟩⟩
        rcases lu with ⟨kx,_⟩ | ⟨_,c,hc,hcell⟩
        · have kx':X.env.scope.names.lookup x = some .local:=kx
          rcases S.out x hx with z | z
          · exact nomatch kx'.symm.trans z
          · exact nomatch kx'.symm.trans z
        · obtain ⟨c',hc'⟩:=clos_has (env:=X.env) (x:=x) (l:=scope.names) (acc:=[]) (.inr (lookup_mem (S.capL x hx)))
          have:c' = c:=Option.some.inj ((cv x c' hc').symm.trans hc)
          subst this
          obtain ⟨oc,hoc,hdc⟩:=hcell
          exact ⟨c',hc',oc,old _ _ hoc,hdc⟩
  · obtain ⟨v,oc,hoc,hdc⟩:=I.cell x c (cv x c e)
    exact ⟨v,oc,old _ _ hoc,hdc⟩
  · have hp':p ∈ X.pn ++ pins:=by simpa [Cx.comp] using hp
    obtain ⟨q1,q2,q3,q4,q5⟩:=I.pin p hp'
    refine ⟨old _ _ q1,q2,lt q1,fun z=>?_,q5⟩
    rcases List.mem_cons.mp (hfs p.1 z) with y | y
    · exact q3 y
    · exact q4 y
  · show (capS σ own ix).length = (own ++ cap).length
    have:=congrArg List.length S.ixL
    rw [List.length_map,List.length_map] at this
    unfold capS
    rw [List.length_append,List.length_append,List.length_map,List.length_map,this]
end
def PIfs (X:Cx) (ifs:List Expr) (t:TT):Prop :=
  ∀ (pins:List (Addr × Obj)) (s:Shared) (σ:St) (H:Hp) (Q:Bool → Hp → Prop),Inv X pins σ H s → t σ H Q →
    wpAny (model X.prog X.w) X.A (forIn ifs true fun c r=>if r = true then do let ok ← isTrue c X.env (eval c X.env); pure (ForInStep.yield ok) else pure (ForInStep.yield r)) (TP X pins σ Q) X.xe s
def tYes:TT:=fun _ H Q=>Q true H
theorem pifs_nil {X:Cx}:PIfs X [] tYes:=fun _ _ _ H _ I h=>wpAny_tests_nil ⟨H,I,h⟩
theorem pifs_one {X:Cx} {c:Expr} {t:TT} (h:PT X c t):PIfs X [c] t:=fun pins s σ H Q I q=>wpAny_tests_one (h pins s σ H Q I q)
def tComp (own:List Str) (ix:List Nat) (wi:TI) (g:TG) (ti:TT) (te:TE):TE:=fun σ H Q=>wi σ H fun J H1 =>
  ∃ W:Nat → Nat → List V → St → Hp → Prop,(∃ m,W 0 m [] (capS σ own ix) H1) ∧ ∀ i m ys σ' H,W i m ys σ' H →
    (J.stop i H ∧ ys.length ≤ sizeLine ∧ ∀ D,H D = none → Q (.ref D) (upd H D (.lst ys))) ∨
    (J.go i H ∧ ∀ x H',J.yld i H x H' → g x σ' H' fun σ2 H2=>ti σ2 H2 fun b H3=>if b = true then te σ2 H3 fun y H4=>ys.length < sizeLine ∧ ∃ m',m' < m ∧ W (i + 1) m' (ys ++ [y]) σ2 H4 else ∃ m',m' < m ∧ W (i + 1) m' ys σ2 H3)
section
variable {X:Cx} {pins:List (Addr × Obj)} {σ:St} {scope:Scope} {own cap:List Str} {ix:List Nat} {tg iter elt:Expr} {ifs:List Expr} {pos:Pos}
set_option maxHeartbeats 4000000 in
theorem comp_block {s:Shared} {H:Hp} {it:Addr} {fp:List Addr} {tn:Nat → Heap → Prop} {J:It} {g:TG} {ti:TT} {te:TE} {Q:VK} {W:Nat → Nat → List V → St → Hp → Prop} {E:Value → Shared → Prop} {RR:Value → Addr → Result → Shared → Prop} (hc:X.calm = true)
    (I:Inv X pins σ H s) (S:CompScope X.N X.env.scope scope own cap ix) (T:Turn X.prog X.w X.K tg J fp it tn) (st:tn 0 s.heap) (hf:∀ b ∈ fp,FpOk X pins H b)
    (hb:∀ (C:Addr) (s₀:Shared) (H₀:Hp) (ex:List Addr) (pn:List (Addr × Obj)),PG (X.comp scope own cap C s₀ H₀ ex pn) tg g ∧ PIfs (X.comp scope own cap C s₀ H₀ ex pn) ifs ti ∧ PE (X.comp scope own cap C s₀ H₀ ex pn) elt te)
    (h0:∃ m,W 0 m [] (capS σ own ix) H)
    (turn:∀ i m ys σ' H,W i m ys σ' H → (J.stop i H ∧ ys.length ≤ sizeLine ∧ ∀ D,H D = none → Q (.ref D) (upd H D (.lst ys))) ∨
      (J.go i H ∧ ∀ x H',J.yld i H x H' → g x σ' H' fun σ2 H2=>ti σ2 H2 fun b H3=>if b = true then te σ2 H3 fun y H4=>ys.length < sizeLine ∧ ∃ m',m' < m ∧ W (i + 1) m' (ys ++ [y]) σ2 H4 else ∃ m',m' < m ∧ W (i + 1) m' ys σ2 H3))
    (hRR:∀ (D C:Addr) (oC:Obj) (m:Str → Option Value) (H':Hp) (s':Shared),s'.heap.get? C = some oC → s'.heap.Ns C m → C ≠ X.env.locals → (X.s₀.heap.objs.size ≤ C) → (∀ x c,X.env.cells.lookup x = some c → c ≠ C) → (∀ p ∈ X.pn ++ pins,p.1 ≠ C) → C ∉ X.fs → H' C = none →
      Inv X pins σ H' s' → Q (.ref D) H' → RR (.ref D) C (.ok .next) s') :
    wpAny (model X.prog X.w) X.A (newList []) (fun acc s₃=>wpAny (model X.prog X.w) X.A (newFunctionEnv scope X.env.globals (clos X.env scope.names []) [] X.env.qual none .none (some X.env)) (fun cenv s₄ =>
      codeAny (model X.prog X.w) X.A (.compStart (.ListComp elt [⟨tg,iter,ifs,0⟩] scope pos) 0 (.ref it) acc { cenv with scope:=relabel scope X.env }) (RR acc cenv.locals) s₄) E s₃) E s:=by
  refine wpAny_newObj_type (wpAny_newFunctionEnv S.cell (by intro y hy; simp at hy) (fun h₁ hns₁ hsb₁=>?_) S.kind)
  dsimp only at hns₁ hsb₁ ⊢
  generalize hH2:s.heap.push { cls:=.type "list",dict:=none,data:=.seq ([]:List Value).toArray } = HH at hns₁ hsb₁ ⊢
  generalize hCn:HH.objs.size = C at hns₁ hsb₁ ⊢
  generalize hDn:s.heap.objs.size = D
  have hC:C = D + 1:=by rw [← hCn,← hH2,Heap.size_push,hDn]
  have hDC:D ≠ C:=by rw [hC]; exact Nat.ne_of_lt (Nat.lt_succ_self _)
  have below:∀ b,b < s.heap.objs.size → b ≠ C ∧ b ≠ D:=fun b hb=>by rw [hDn] at hb; exact ⟨by rw [hC]; exact Nat.ne_of_lt (Nat.lt_succ_of_lt hb),Nat.ne_of_lt hb⟩
  have old:∀ b o,s.heap.get? b = some o → h₁.get? b = some o:=fun b o e=>hsb₁.extBut b o (below b (Heap.lt_size e)).1 (Heap.get?_push_of_some _ (hH2 ▸ Heap.get?_push_of_some _ e))
  have hacc:h₁.get? D = some { cls:=.type "list",data:=.seq ([]:List Value).toArray 0 }:=hsb₁.extBut _ _ hDC (Heap.get?_push_of_some _ (by rw [← hH2,← hDn]; exact Heap.get?_push_size _ rfl))
  have hCs:s.heap.objs.size ≤ C:=by rw [hDn,hC]; exact Nat.le_succ _
  have hDs:s.heap.objs.size ≤ D:=Nat.le_of_eq hDn
  have hDf:D ∉ fp:=fun hm=>by
    obtain ⟨o,e,_⟩:=T.obj _ _ st D hm
    exact (below D (Heap.lt_size e)).2 rfl
  have hD0:H D = none:=I.hok.fresh hDs
  obtain ⟨gG,gI,gE⟩:=hb C s H fp (X.pn ++ pins)
  have I0:∀ tk,Inv (X.comp scope own cap C s H fp (X.pn ++ pins)) [] (capS σ own ix) H { s with heap:=h₁,toks:=tk }:=fun tk=>I.comp S hf (fun b hb=>(T.obj _ _ st b hb).imp fun o e=>e.1) hCs old hns₁
  have cvX:∀ x c,(X.comp scope own cap C s H fp (X.pn ++ pins)).env.cells.lookup x = some c → X.env.cells.lookup x = some c:=fun x c e=>clos_val (S.has I.ok) (fun q=>by simp at q) e
  have cellLt:∀ x c,X.env.cells.lookup x = some c → c < s.heap.objs.size:=fun x c e=>by obtain ⟨v,q⟩:=I.cell x c e; exact q.lt
  have frsLt:∀ b ∈ frs X.stack,b < s.heap.objs.size:=fun b hb=>by
    rcases List.mem_cons.mp (I.stkSub b hb) with z | z
    · rw [z]; exact I.lt
    · obtain ⟨_,o,ho,_⟩:=I.funs.mem z
      exact Heap.lt_size ho
  have fpB:∀ (H':Hp) (ps:List (Addr × Obj)),(∀ p ∈ ps,p.1 = D) → (∀ b ∈ fp,H' b = none) → ∀ b ∈ fp,FpOk (X.comp scope own cap C s H fp (X.pn ++ pins)) ps H' b:=fun H' ps hps hn b hb=>by
    obtain ⟨o,e,_⟩:=T.obj _ _ st b hb
    obtain ⟨f0,f1,f2,f3,f4,f5⟩:=hf b hb
    refine ⟨hn b hb,(below b (Heap.lt_size e)).1,fun z=>?_,.inl hb,fun x c q=>f4 x c (cvX x c q),fun p hp=>?_⟩
    · rcases List.mem_cons.mp (I.stkSub b z) with y | y
      · exact f1 y
      · exact f2 y
    · rcases List.mem_append.mp hp with z | z
      · exact f5 p z
      · intro y
        exact hDf (by rw [← hps p z,y]; exact hb)
  have pinD:∀ {H':Hp} {σ':St} {s':Shared} {o:Obj},Inv (X.comp scope own cap C s H fp (X.pn ++ pins)) [] σ' H' s' → s'.heap.get? D = some o → (∀ v,o.data ≠ .cell v) → H' D = none → Inv (X.comp scope own cap C s H fp (X.pn ++ pins)) [(D,o)] σ' H' s':=fun {H' σ' s' o} I' e hd hn =>
    I'.pins_of fun p hp=>by
      have e1:p = (D,o):=by simpa using hp
      subst e1
      exact ⟨e,hn,hDC,fun z=>Nat.lt_irrefl _ (Nat.lt_of_lt_of_le (frsLt D z) hDs),hd⟩
  have loop:∀ s₃:Shared,s₃ = { s with heap:=h₁,toks:=s.toks + ([]:List (Str × Value)).length } →
      codeAny (model X.prog X.w) X.A (.compLoop (.ListComp elt [⟨tg,iter,ifs,0⟩] scope pos) 0 (.ref it) (.ref D) (compEnvC scope (clos X.env scope.names []) C X.env)) (RR (.ref D) C) s₃:=by
    rintro s₃ rfl
    obtain ⟨m0,w0⟩:=h0
    refine compLoop_go (fun n s'=>∃ i ys σ' H',Inv (X.comp scope own cap C s H fp (X.pn ++ pins)) [] σ' H' s' ∧ tn i s'.heap ∧ (∀ b ∈ fp,H' b = none) ∧ H' D = none ∧
      (∃ (its:List Value) (k:Nat),Vals ys its ∧ s'.heap.get? D = some { cls:=.type "list",data:=.seq its.toArray k }) ∧ ys.length ≤ sizeLine ∧ W i n ys σ' H') ?_ m0
      ⟨0,[],_,H,I0 _,T.keep _ _ _ st fun b _ o e=>old b o e,fun b hb=>(hf b hb).1,hD0,⟨[],0,.nil,hacc⟩,Nat.zero_le _,w0⟩
    rintro n s' ⟨i,ys,σ',H',I',st',fr',hD',⟨its,k,hv,hDo⟩,hyl,w'⟩
    have ID:=pinD I' hDo (fun v q=>nomatch q) hD'
    rcases turn i n ys σ' H' w' with ⟨stop,hz,q⟩ | ⟨go,step⟩
    · refine thn (T.done (X.comp scope own cap C s H fp (X.pn ++ pins)) rfl rfl rfl hc i [(D,_)] s' σ' H' _ ID (fpB H' _ (fun p hp=>by rw [List.mem_singleton.mp hp]) fr') st' stop) fun r s'' ⟨hr,I2⟩=>?_
      subst hr
      show RR (.ref D) C (.ok .next) s''
      have hDo2:s''.heap.get? D = some { cls:=.type "list",data:=.seq its.toArray k }:=(I2.pin (D,_) (List.mem_append_right _ (List.mem_singleton.mpr rfl))).1
      obtain ⟨m2,hn2,_⟩:=I2.loc
      obtain ⟨oC,es,ep,hoC,_⟩:=id hn2
      have hok2:HOk X.prog X.w (upd H' D (.lst ys)) s''.heap:=I2.hok.track hD' ⟨hyl,its,k,hv,hDo2⟩
      have un:Un (frs X.stack) fp H (upd H' D (.lst ys)) s.heap s''.heap:=by
        have u0:Un (frs X.stack) fp H H' s.heap s''.heap:=I2.base
        refine ⟨u0.keep,u0.slot,fun b o e hn hx=>?_,u0.there,fun b xs e=>?_,fun b o u e=>?_,fun b ps e=>?_⟩
        · rw [upd_ne (below b (Heap.lt_size e)).2]; exact u0.free b o e hn hx
        · rw [upd_ne (ne_of_none (u0.tups b xs e) hD')]; exact u0.tups b xs e
        · rw [upd_ne (ne_of_none (u0.frzs b o u e) hD')]; exact u0.frzs b o u e
        · obtain ⟨more,e'⟩:=u0.tbls b ps e
          exact ⟨more,by rw [upd_ne (ne_of_none e' hD')]; exact e'⟩
      have IX:Inv X pins σ (upd H' D (.lst ys)) s'':=I.call' (ch:=fp) I2.os un hok2 I2.bare fun b hb=>⟨(hf b hb).2.2.2.1,(hf b hb).2.1,(hf b hb).2.2.2.2.1,(hf b hb).2.2.2.2.2⟩
      refine hRR D C oC m2 _ s'' hoC hn2 ?_ ?_ (fun x c e z=>?_) (fun p hp z=>?_) (fun z=>?_) ?_ IX (q D hD')
      · exact fun z=>Nat.lt_irrefl _ (Nat.lt_of_lt_of_le I.lt (by rw [← z]; exact hCs))
      · exact Nat.le_trans I.sz hCs
      · exact Nat.lt_irrefl _ (Nat.lt_of_lt_of_le (cellLt x c e) (by rw [z]; exact hCs))
      · exact Nat.lt_irrefl _ (Nat.lt_of_lt_of_le (Heap.lt_size (I.pin p hp).1) (by rw [z]; exact hCs))
      · obtain ⟨_,o,ho,_⟩:=I.funs.mem z
        exact Nat.lt_irrefl _ (Nat.lt_of_lt_of_le (Heap.lt_size ho) hCs)
      · rw [upd_ne hDC.symm]; exact I2.free
    · refine thn (T.item (X.comp scope own cap C s H fp (X.pn ++ pins)) rfl rfl rfl hc i [(D,_)] s' σ' H' _ ID (fpB H' _ (fun p hp=>by rw [List.mem_singleton.mp hp]) fr') st' go) fun r s4 ⟨u,hr,h4⟩=>?_
      subst hr
      refine thn h4 fun _ s5 ⟨x,H5,I5,r5,y5,st5,fr5⟩=>?_
      have hDp5:=I5.pin (D,_) (List.mem_append_right _ (List.mem_singleton.mpr rfl))
      have I5':=I5.pinned (fpB H5 _ (fun p hp=>by rw [List.mem_singleton.mp hp]) fr5) (T.obj _ _ st5)
      refine thn (gG _ s5 σ' H5 x u _ I5' r5 (step x H5 y5)) fun _ s6 ⟨σ6,H6,I6,q6⟩=>?_
      refine thn (gI _ s6 σ6 H6 _ I6 q6) fun ok s7 ⟨H7,I7,q7⟩=>?_
      have fpK:∀ {σ8:St} {H8:Hp} {s8:Shared},Inv (X.comp scope own cap C s H fp (X.pn ++ pins)) ([(D,({ cls:=.type "list",data:=.seq its.toArray k }:Obj))] ++ pinsAt fp s5.heap) σ8 H8 s8 → tn (i + 1) s8.heap ∧ (∀ b ∈ fp,H8 b = none):=fun {σ8 H8 s8} I8=>by
        refine ⟨T.keep _ _ _ st5 fun b hb o e=>(I8.pin (b,o) (List.mem_append_right _ (List.mem_append_right _ (mem_pinsAt hb e)))).1,fun b hb=>?_⟩
        obtain ⟨o,e,d⟩:=T.obj _ _ st5 b hb
        exact (I8.pin (b,o) (List.mem_append_right _ (List.mem_append_right _ (mem_pinsAt hb e)))).2.1
      have dK:∀ {σ8:St} {H8:Hp} {s8:Shared},Inv (X.comp scope own cap C s H fp (X.pn ++ pins)) ([(D,({ cls:=.type "list",data:=.seq its.toArray k }:Obj))] ++ pinsAt fp s5.heap) σ8 H8 s8 → s8.heap.get? D = some { cls:=.type "list",data:=.seq its.toArray k } ∧ H8 D = none:=fun {σ8 H8 s8} I8=>by
        have z:=I8.pin (D,_) (List.mem_append_right _ (List.mem_append_left _ (List.mem_singleton.mpr rfl)))
        exact ⟨z.1,z.2.1⟩
      cases ok with
      | false =>
        obtain ⟨m',hm,w7⟩:=q7
        obtain ⟨st7,fr7⟩:=fpK I7
        obtain ⟨hD7,hn7⟩:=dK I7
        exact ⟨m',hm,i + 1,ys,σ6,H7,I7.pins_of (fun p hp=>nomatch hp),st7,fr7,hn7,⟨its,k,hv,hD7⟩,hyl,w7⟩
      | true =>
        refine thn (gE _ s7 σ6 H7 _ I7 q7) fun xv s8 ⟨y,H8,I8,r8,hl8,m',hm,w8⟩=>?_
        obtain ⟨st8,fr8⟩:=fpK I8
        obtain ⟨hD8,hn8⟩:=dK I8
        refine append_at (hsz:=by rw [List.size_toArray,← hv.length]; exact Nat.le_of_lt hl8) hD8 fun h9 hs9 hD9=>?_
        have I9:Inv (X.comp scope own cap C s H fp (X.pn ++ pins)) [] σ6 H8 { s8 with heap:=h9 }:=by
          refine (I8.pins_of (pins':=[]) fun p hp=>nomatch hp).turned (t':=s8.toks) (it:=D) (fun b o hb e=>hs9.extBut b o hb e) hn8 hDC (.inr hDs) (fun x c e z=>?_) (fun p hp z=>?_)
          · exact Nat.lt_irrefl _ (Nat.lt_of_lt_of_le (cellLt x c (cvX x c e)) (by rw [z]; exact hDs))
          · have hp':p ∈ X.pn ++ pins:=by simpa [Cx.comp] using hp
            exact Nat.lt_irrefl _ (Nat.lt_of_lt_of_le (Heap.lt_size (I.pin p hp').1) (by rw [z]; exact hDs))
        refine ⟨m',hm,i + 1,ys ++ [y],σ6,H8,I9,T.keep _ _ _ st8 fun b hb o e=>hs9.extBut b o (fun z=>hDf (by rw [← z]; exact hb)) e,fr8,hn8,⟨its ++ [xv],k + 1,hv.append (.cons r8 .nil),?_⟩,by rw [List.length_append,List.length_singleton]; exact hl8,w8⟩
        rw [hD9,List.push_toArray]
  exact codeAny_compStart_list (loop _ rfl) (T.self _ 0 _ _ _ (T.keep _ _ _ st fun b _ o e=>old b o e) (loop _ rfl))
theorem pe_comp {wi:TI} {g:TG} {ti:TT} {te:TE} (hc:X.calm = true) (S:CompScope X.N X.env.scope scope own cap ix) (hi:PI X tg iter wi)
    (hb:∀ (C:Addr) (s₀:Shared) (H₀:Hp) (ex:List Addr) (pn:List (Addr × Obj)),PG (X.comp scope own cap C s₀ H₀ ex pn) tg g ∧ PIfs (X.comp scope own cap C s₀ H₀ ex pn) ifs ti ∧ PE (X.comp scope own cap C s₀ H₀ ex pn) elt te)
    (hs:∀ x,foldedSetIterable iter X.env x = pure x:=by intro _; rfl):PE X (.ListComp elt [⟨tg,iter,ifs,0⟩] scope pos) (tComp own ix wi g ti te):=by
  intro pins s σ H Q I h
  rw [eval_ListComp]
  refine wpAny_comprehension_free (use:=none) rfl hs (closureFor_clos (S.has I.ok)) S.kind S.names (thn (hi pins s σ H _ I h) fun xv s₁ h₁=>thn h₁ fun itv s₂ h₂=>?_)
  obtain ⟨it,fp,tn,J,H2,e,I2,T,st2,f2,W,h0,turn⟩:=h₂
  subst e
  refine comp_block (Q:=Q) (RR:=fun acc C=>compPost (model X.prog X.w) X.A X.xe none (EP X pins σ Q) acc C) hc I2 S T st2 f2 hb h0 turn ?_
  intro D C oC m H' s' hoC hn h1 h2 h3 h4 h5 h6 I' q
  refine ⟨m,hn,fun h' hs'=>⟨.ref D,H',I'.turned (t':=s'.toks) (it:=C) (fun b o hb e=>hs'.extBut b o hb e) h6 (Ne.symm h1.symm) (.inr h2) h3 h4,rfl,q⟩⟩
theorem ps_setC {wi:TI} {g:TG} {ti:TT} {te:TE} {i:Nat} {y:Str} {py spos:Pos} (hc:X.calm = true) (hN:X.N.Nodup) (hy:X.N[i]? = some y) (hx:Loc X.env.scope y) (S:CompScope X.N X.env.scope scope own cap ix) (hi:PI X tg iter wi)
    (hb:∀ (C:Addr) (s₀:Shared) (H₀:Hp) (ex:List Addr) (pn:List (Addr × Obj)),PG (X.comp scope own cap C s₀ H₀ ex pn) tg g ∧ PIfs (X.comp scope own cap C s₀ H₀ ex pn) ifs ti ∧ PE (X.comp scope own cap C s₀ H₀ ex pn) elt te)
    (hsw:swapsWith (.ListComp elt [⟨tg,iter,ifs,0⟩] scope pos) (some (.Name y py)) spos.line X.env = pure true:=by rfl)
    (hs:∀ x,foldedSetIterable iter X.env x = pure x:=by intro _; rfl) (hf:X.fn y = true ∨ X.env.scope.names.lookup y = some .local:=by first | exact .inl rfl | exact .inr rfl | assumption) :
    PS X (.Assign [.Name y py] (.ListComp elt [⟨tg,iter,ifs,0⟩] scope pos) spos) (tAsg (tComp own ix wi g ti te) (gName i)):=by
  intro pins s σ H D I h
  rw [exec_Assign_Name_used _ _ _ _ hsw]
  refine wpAny_bind (wpAny_standAt (wpAny_bind ?_))
  show wpAny _ X.A (do let _ ← comprehension (.ListComp elt [⟨tg,iter,ifs,0⟩] scope pos) scope X.env _ (newList []) false (eval iter X.env) (some (assign (.Name y py) X.env))) _ _ s
  refine wpAny_bind (wpAny_mono (wpAny_comprehension_free (use:=some (assign (.Name y py) X.env)) (Q:=fun _ s'=>SP X pins D .next s') rfl hs (closureFor_clos (S.has I.ok)) S.kind S.names
    (thn (hi pins s σ H _ I h) fun xv s₁ h₁=>thn h₁ fun itv s₂ h₂=>?_)) (fun _ s' hq=>wpAny_pure (wpAny_pure hq)) fun _ _ e=>e)
  obtain ⟨it,fp,tn,J,H2,e,I2,T,st2,f2,W,h0,turn⟩:=h₂
  subst e
  refine comp_block (Q:=fun x H1=>gName i x σ H1 D.nx) (RR:=fun acc C=>compPost (model X.prog X.w) X.A X.xe (some (assign (.Name y py) X.env)) (fun _ s'=>SP X pins D .next s') acc C) hc I2 S T st2 f2 hb h0 turn ?_
  intro Da C oC m H' s' hoC hn h1 h2 h3 h4 h5 h6 I' q
  have hdc:∀ v,oC.data ≠ .cell v:=fun v z=>by
    obtain ⟨o',es,ep,ho',hd',_⟩:=hn
    rw [hoC] at ho'; cases ho'; rw [hd'] at z; cases z
  have Ip:Inv X (pins ++ [(C,oC)]) σ H' s':=I'.pins_of fun p hp=>by
    rcases List.mem_append.mp hp with z | z
    · exact I'.pin p (List.mem_append_right _ z)
    · have e1:p = (C,oC):=by simpa using z
      subst e1
      exact ⟨hoC,h6,h1,h5,hdc⟩
  show wpAny _ X.A (assign (.Name y py) X.env (.ref Da)) _ _ _
  refine wpAny_assign_Name (store_ok (v:=.ref Da) Ip hN hy hx rfl (fun s2 I3=>?_) hf)
  have pc:=I3.pin (C,oC) (List.mem_append_right _ (List.mem_append_right _ (by simp)))
  obtain ⟨o',es,ep,ho',r'⟩:=hn
  rw [hoC] at ho'; cases ho'
  refine ⟨m,⟨oC,es,ep,pc.1,r'⟩,fun h' hs'=>⟨_,H',(Inv.unpinned I3).turned (t':=s2.toks) (it:=C) (fun b o hb e=>hs'.extBut b o hb e) h6 h1 (.inr h2) h3 h4,q⟩⟩
end
theorem comp_list {K:PySem.W.Frag} {a:Addr} {xs:List V} {x0:Str} {ix:List Nat} {ti:TT} {te:TE} {Q:VK} {σ:St} {H:Hp} (Pv:Nat → List V → Hp → Prop) (h0:Pv 0 [] H) (hl:∀ i ys H,i ≤ xs.length → Pv i ys H → SqL K H a xs)
    (hs:∀ i x ys H (R:List V → Hp → Prop),xs[i]? = some x → Pv i ys H → (∀ ys' H',Pv (i + 1) ys' H' → R ys' H') → ti (some x :: ix.map fun j=>(σ[j]?).join) H fun b H3=>if b = true then te (some x :: ix.map fun j=>(σ[j]?).join) H3 fun y H4=>ys.length < sizeLine ∧ R (ys ++ [y]) H4 else R ys H3)
    (hd:∀ ys H,Pv xs.length ys H → ys.length ≤ sizeLine ∧ ∀ D,H D = none → Q (.ref D) (upd H D (.lst ys))) :
    ∃ W:Nat → Nat → List V → St → Hp → Prop,(∃ m,W 0 m [] (capS σ [x0] ix) H) ∧ ∀ i m ys σ' H,W i m ys σ' H →
      ((Itl K a).stop i H ∧ ys.length ≤ sizeLine ∧ ∀ D,H D = none → Q (.ref D) (upd H D (.lst ys))) ∨
      ((Itl K a).go i H ∧ ∀ x H',(Itl K a).yld i H x H' → gName 0 x σ' H' fun σ2 H2=>ti σ2 H2 fun b H3=>if b = true then te σ2 H3 fun y H4=>ys.length < sizeLine ∧ ∃ m',m' < m ∧ W (i + 1) m' (ys ++ [y]) σ2 H4 else ∃ m',m' < m ∧ W (i + 1) m' ys σ2 H3):=by
  refine ⟨fun i m ys σ' H=>m = xs.length - i ∧ i ≤ xs.length ∧ (∃ o,σ' = o :: ix.map fun j=>(σ[j]?).join) ∧ Pv i ys H,⟨xs.length,by simp,Nat.zero_le _,⟨none,rfl⟩,h0⟩,?_⟩
  rintro i m ys σ' H ⟨rfl,hi,⟨o,rfl⟩,p⟩
  have q:=hl i ys H hi p
  by_cases hlt:i < xs.length
  · refine .inr ⟨⟨xs,xs[i],q,by simp [hlt]⟩,fun x H' y=>?_⟩
    obtain ⟨e,y⟩:=y
    subst e
    exact hs i x ys _ (fun ys' H4=>∃ m',m' < xs.length - i ∧ m' = xs.length - (i + 1) ∧ i + 1 ≤ xs.length ∧ (∃ o',some x :: (ix.map fun j=>(σ[j]?).join) = o' :: ix.map fun j=>(σ[j]?).join) ∧ Pv (i + 1) ys' H4) (y xs q) p
      fun ys' H4 z=>⟨xs.length - (i + 1),by omega,rfl,hlt,⟨_,rfl⟩,z⟩
  · have e:i = xs.length:=by omega
    subst e
    exact .inl ⟨⟨xs,q,Nat.le_refl _⟩,hd ys H p⟩
theorem comp_str {z:Str} {x0:Str} {ix:List Nat} {ti:TT} {te:TE} {Q:VK} {σ:St} {H:Hp} (Pv:Nat → List V → Hp → Prop) (h0:Pv 0 [] H)
    (hs:∀ i c ys H (R:List V → Hp → Prop),z.cps[i]? = some c → Pv i ys H → (∀ ys' H',Pv (i + 1) ys' H' → R ys' H') → ti (some (.str ⟨#[c]⟩) :: ix.map fun j=>(σ[j]?).join) H fun b H3=>if b = true then te (some (.str ⟨#[c]⟩) :: ix.map fun j=>(σ[j]?).join) H3 fun y H4=>ys.length < sizeLine ∧ R (ys ++ [y]) H4 else R ys H3)
    (hd:∀ ys H,Pv z.cps.size ys H → ys.length ≤ sizeLine ∧ ∀ D,H D = none → Q (.ref D) (upd H D (.lst ys))) :
    ∃ W:Nat → Nat → List V → St → Hp → Prop,(∃ m,W 0 m [] (capS σ [x0] ix) H) ∧ ∀ i m ys σ' H,W i m ys σ' H →
      ((Its z).stop i H ∧ ys.length ≤ sizeLine ∧ ∀ D,H D = none → Q (.ref D) (upd H D (.lst ys))) ∨
      ((Its z).go i H ∧ ∀ x H',(Its z).yld i H x H' → gName 0 x σ' H' fun σ2 H2=>ti σ2 H2 fun b H3=>if b = true then te σ2 H3 fun y H4=>ys.length < sizeLine ∧ ∃ m',m' < m ∧ W (i + 1) m' (ys ++ [y]) σ2 H4 else ∃ m',m' < m ∧ W (i + 1) m' ys σ2 H3):=by
  refine ⟨fun i m ys σ' H=>m = z.cps.size - i ∧ i ≤ z.cps.size ∧ (∃ o,σ' = o :: ix.map fun j=>(σ[j]?).join) ∧ Pv i ys H,⟨z.cps.size,by simp,Nat.zero_le _,⟨none,rfl⟩,h0⟩,?_⟩
  rintro i m ys σ' H ⟨rfl,hi,⟨o,rfl⟩,p⟩
  by_cases hlt:i < z.cps.size
  · refine .inr ⟨hlt,fun x H' y=>?_⟩
    obtain ⟨e,c,hc,rfl⟩:=y
    subst e
    exact hs i c ys _ (fun ys' H4=>∃ m',m' < z.cps.size - i ∧ m' = z.cps.size - (i + 1) ∧ i + 1 ≤ z.cps.size ∧ (∃ o',some (V.str ⟨#[c]⟩) :: (ix.map fun j=>(σ[j]?).join) = o' :: ix.map fun j=>(σ[j]?).join) ∧ Pv (i + 1) ys' H4) hc p
      fun ys' H4 q=>⟨z.cps.size - (i + 1),by omega,rfl,hlt,⟨_,rfl⟩,q⟩
  · have e:i = z.cps.size:=by omega
    subst e
    exact .inl ⟨rfl,hd ys H p⟩
theorem comp_range {lo:Int} {n:Nat} {x0:Str} {ix:List Nat} {ti:TT} {te:TE} {Q:VK} {σ:St} {H:Hp} (Pv:Nat → List V → Hp → Prop) (h0:Pv 0 [] H)
    (hs:∀ i ys H (R:List V → Hp → Prop),i < n → Pv i ys H → (∀ ys' H',Pv (i + 1) ys' H' → R ys' H') → ti (some (.int (lo + i)) :: ix.map fun j=>(σ[j]?).join) H fun b H3=>if b = true then te (some (.int (lo + i)) :: ix.map fun j=>(σ[j]?).join) H3 fun y H4=>ys.length < sizeLine ∧ R (ys ++ [y]) H4 else R ys H3)
    (hd:∀ ys H,Pv n ys H → ys.length ≤ sizeLine ∧ ∀ D,H D = none → Q (.ref D) (upd H D (.lst ys))) :
    ∃ W:Nat → Nat → List V → St → Hp → Prop,(∃ m,W 0 m [] (capS σ [x0] ix) H) ∧ ∀ i m ys σ' H,W i m ys σ' H →
      ((Itr lo n).stop i H ∧ ys.length ≤ sizeLine ∧ ∀ D,H D = none → Q (.ref D) (upd H D (.lst ys))) ∨
      ((Itr lo n).go i H ∧ ∀ x H',(Itr lo n).yld i H x H' → gName 0 x σ' H' fun σ2 H2=>ti σ2 H2 fun b H3=>if b = true then te σ2 H3 fun y H4=>ys.length < sizeLine ∧ ∃ m',m' < m ∧ W (i + 1) m' (ys ++ [y]) σ2 H4 else ∃ m',m' < m ∧ W (i + 1) m' ys σ2 H3):=by
  refine ⟨fun i m ys σ' H=>m = n - i ∧ i ≤ n ∧ (∃ o,σ' = o :: ix.map fun j=>(σ[j]?).join) ∧ Pv i ys H,⟨n,by simp,Nat.zero_le _,⟨none,rfl⟩,h0⟩,?_⟩
  rintro i m ys σ' H ⟨rfl,hi,⟨o,rfl⟩,p⟩
  by_cases hlt:i < n
  · refine .inr ⟨hlt,fun x H' y=>?_⟩
    obtain ⟨e,y⟩:=y
    subst e y
    exact hs i ys _ (fun ys' H4=>∃ m',m' < n - i ∧ m' = n - (i + 1) ∧ i + 1 ≤ n ∧ (∃ o',some (V.int (lo + i)) :: (ix.map fun j=>(σ[j]?).join) = o' :: ix.map fun j=>(σ[j]?).join) ∧ Pv (i + 1) ys' H4) hlt p
      fun ys' H4 q=>⟨n - (i + 1),by omega,rfl,hlt,⟨_,rfl⟩,q⟩
  · have e:i = n:=by omega
    subst e
    exact .inl ⟨Nat.le_refl _,hd ys H p⟩
theorem tcomp_list {K:PySem.W.Frag} {a:Addr} {xs:List V} {x0:Str} {ix:List Nat} {wi:TI} {ti:TT} {te:TE} {Q:VK} {σ:St} {H H1:Hp} (hi:∀ R:It → Hp → Prop,R (Itl K a) H1 → wi σ H R) (Pv:Nat → List V → Hp → Prop) (h0:Pv 0 [] H1) (hl:∀ i ys H,i ≤ xs.length → Pv i ys H → SqL K H a xs)
    (hs:∀ i x ys H (R:List V → Hp → Prop),xs[i]? = some x → Pv i ys H → (∀ ys' H',Pv (i + 1) ys' H' → R ys' H') → ti (some x :: ix.map fun j=>(σ[j]?).join) H fun b H3=>if b = true then te (some x :: ix.map fun j=>(σ[j]?).join) H3 fun y H4=>ys.length < sizeLine ∧ R (ys ++ [y]) H4 else R ys H3)
    (hd:∀ ys H,Pv xs.length ys H → ys.length ≤ sizeLine ∧ ∀ D,H D = none → Q (.ref D) (upd H D (.lst ys))):tComp [x0] ix wi (gName 0) ti te σ H Q:=hi _ (comp_list Pv h0 hl hs hd)
theorem tcomp_str {z:Str} {x0:Str} {ix:List Nat} {wi:TI} {ti:TT} {te:TE} {Q:VK} {σ:St} {H H1:Hp} (hi:∀ R:It → Hp → Prop,R (Its z) H1 → wi σ H R) (Pv:Nat → List V → Hp → Prop) (h0:Pv 0 [] H1)
    (hs:∀ i c ys H (R:List V → Hp → Prop),z.cps[i]? = some c → Pv i ys H → (∀ ys' H',Pv (i + 1) ys' H' → R ys' H') → ti (some (.str ⟨#[c]⟩) :: ix.map fun j=>(σ[j]?).join) H fun b H3=>if b = true then te (some (.str ⟨#[c]⟩) :: ix.map fun j=>(σ[j]?).join) H3 fun y H4=>ys.length < sizeLine ∧ R (ys ++ [y]) H4 else R ys H3)
    (hd:∀ ys H,Pv z.cps.size ys H → ys.length ≤ sizeLine ∧ ∀ D,H D = none → Q (.ref D) (upd H D (.lst ys))):tComp [x0] ix wi (gName 0) ti te σ H Q:=hi _ (comp_str Pv h0 hs hd)
theorem tcomp_range {lo:Int} {n:Nat} {x0:Str} {ix:List Nat} {wi:TI} {ti:TT} {te:TE} {Q:VK} {σ:St} {H H1:Hp} (hi:∀ R:It → Hp → Prop,R (Itr lo n) H1 → wi σ H R) (Pv:Nat → List V → Hp → Prop) (h0:Pv 0 [] H1)
    (hs:∀ i ys H (R:List V → Hp → Prop),i < n → Pv i ys H → (∀ ys' H',Pv (i + 1) ys' H' → R ys' H') → ti (some (.int (lo + i)) :: ix.map fun j=>(σ[j]?).join) H fun b H3=>if b = true then te (some (.int (lo + i)) :: ix.map fun j=>(σ[j]?).join) H3 fun y H4=>ys.length < sizeLine ∧ R (ys ++ [y]) H4 else R ys H3)
    (hd:∀ ys H,Pv n ys H → ys.length ≤ sizeLine ∧ ∀ D,H D = none → Q (.ref D) (upd H D (.lst ys))):tComp [x0] ix wi (gName 0) ti te σ H Q:=hi _ (comp_range Pv h0 hs hd)
end L2
namespace L2
open PySem PySem.Spec PyProof.Rows
section
variable {X:Cx}
theorem call_isiT:CallR X (.builtin "isinstance") (fun xs H Q=>∃ x n t b,xs = [x,.ty n] ∧ TyOf X.K H x t ∧ PySem.W.kitOne X.K t (.type n) = some b ∧ Q (.bl b) H):=by
  intro pins s σ H xs us Q I r h
  obtain ⟨x,n,t,b,rfl,ty,e,q⟩:=h
  obtain ⟨u,w',rfl,rx,rc⟩:=vals2 r
  cases (show w' = Value.type n from rc)
  exact isinst_ok I rx ty e fun tk=>⟨.bl b,H,I.tok tk,rfl,q⟩
theorem pe_ty {x:Str} {n:String} {pos:Pos} (hg:Gl X x) (hm:X.mg x = none) (hv:bootBuiltins x = some (.type n)) (hn:x ≠ "__name__":=by decide) (hd:(x == ("__debug__":Str)) = false:=by decide):PE X (.Name x pos) (tC (.ty n)) :=
  pe_bltn (v:=.ty n) hg hm hv rfl hn hd
theorem truth_bools {prog:Program} {w:World} {A:Around} {bs:List Bool} {its:List Value} (r:Vals (bs.map V.bl) its):TruthOf prog w A (fun i v=>its.toArray[i]? = some v) (fun i=>bs.getD i false):=by
  intro i v s Q E hv q
  have hv':its[i]? = some v:=by simpa using hv
  have hl:=r.length
  rw [List.length_map] at hl
  have hi:i < its.length:=(List.getElem?_eq_some_iff.mp hv').1
  have hb:(bs.map V.bl)[i]? = some (.bl (bs.getD i false)):=by
    rw [List.getElem?_map,List.getD_eq_getElem?_getD,List.getElem?_eq_getElem (show i < bs.length by omega)]
    rfl
  obtain ⟨u,hu,ru⟩:=Vals.get r hb
  rw [hv'] at hu
  cases hu
  cases (show v = Value.bool _ from ru)
  exact wpAny_truthy_bool q
theorem range_all (bs:List Bool):(List.range bs.length).all (fun i=>bs.getD i false) = bs.all id:=by
  rw [Bool.eq_iff_iff,List.all_eq_true,List.all_eq_true]
  constructor
  · intro h b hb
    obtain ⟨i,hi,e⟩:=List.mem_iff_getElem.mp hb
    have:=h i (List.mem_range.mpr hi)
    rw [List.getD_eq_getElem?_getD,List.getElem?_eq_getElem hi,e] at this
    exact this
  · intro h i hi
    have hi':=List.mem_range.mp hi
    rw [List.getD_eq_getElem?_getD,List.getElem?_eq_getElem hi']
    exact h _ (List.getElem_mem hi')
theorem range_any (bs:List Bool):(List.range bs.length).any (fun i=>bs.getD i false) = bs.any id:=by
  rw [Bool.eq_iff_iff,List.any_eq_true,List.any_eq_true]
  constructor
  · rintro ⟨i,hi,e⟩
    have hi':=List.mem_range.mp hi
    rw [List.getD_eq_getElem?_getD,List.getElem?_eq_getElem hi'] at e
    exact ⟨_,List.getElem_mem hi',e⟩
  · rintro ⟨b,hb,e⟩
    obtain ⟨i,hi,e'⟩:=List.mem_iff_getElem.mp hb
    refine ⟨i,List.mem_range.mpr hi,?_⟩
    rw [List.getD_eq_getElem?_getD,List.getElem?_eq_getElem hi,e']
    exact e
theorem call_all (hc:X.calm = true):CallR X (.builtin "all") (fun xs H Q=>∃ (p:Addr) (bs:List Bool),xs = [.ref p] ∧ SqL X.K H p (bs.map V.bl) ∧ Q (.bl (bs.all id)) H):=by
  intro pins s σ H xs us Q I r h
  obtain ⟨p,bs,rfl,hq,q⟩:=h
  obtain ⟨u,rfl,rx⟩:=vals1 r
  cases (show u = Value.ref p from rx)
  obtain ⟨its,rv,pl,hz⟩:=I.list hq
  have hlt:p < s.heap.objs.size:=by obtain ⟨_,e,_⟩:=pl.isList; exact Heap.lt_size e
  have hl:=rv.length
  rw [List.length_map] at hl
  refine call_all_walk (wpAny_pyIter_list pl.isList ⟨s.heap.objs.size,_,_,_,_,_,_,rfl,Walks.list (A:=X.A.in1) (show X.A.in1.handled = none from I.ok.hd hc) s.heap.objs.size p (Nat.ne_of_lt hlt) its.toArray,⟨⟨_,Heap.get?_push_size _ rfl,rfl,rfl⟩,pl.isList.push _⟩,truth_bools rv,fun h' tk hk=>?_⟩)
  rw [List.size_toArray,← hl,range_all]
  exact ⟨.bl _,H,I.kept fun b o e=>hk b o (by simpa using Nat.ne_of_lt (Heap.lt_size e)) (Heap.get?_push_of_some _ e),rfl,q⟩
theorem call_any (hc:X.calm = true):CallR X (.builtin "any") (fun xs H Q=>∃ (p:Addr) (bs:List Bool),xs = [.ref p] ∧ SqL X.K H p (bs.map V.bl) ∧ Q (.bl (bs.any id)) H):=by
  intro pins s σ H xs us Q I r h
  obtain ⟨p,bs,rfl,hq,q⟩:=h
  obtain ⟨u,rfl,rx⟩:=vals1 r
  cases (show u = Value.ref p from rx)
  obtain ⟨its,rv,pl,hz⟩:=I.list hq
  have hlt:p < s.heap.objs.size:=by obtain ⟨_,e,_⟩:=pl.isList; exact Heap.lt_size e
  have hl:=rv.length
  rw [List.length_map] at hl
  refine call_any_walk (wpAny_pyIter_list pl.isList ⟨s.heap.objs.size,_,_,_,_,_,_,rfl,Walks.list (A:=X.A.in1) (show X.A.in1.handled = none from I.ok.hd hc) s.heap.objs.size p (Nat.ne_of_lt hlt) its.toArray,⟨⟨_,Heap.get?_push_size _ rfl,rfl,rfl⟩,pl.isList.push _⟩,truth_bools rv,fun h' tk hk=>?_⟩)
  rw [List.size_toArray,← hl,range_any]
  exact ⟨.bl _,H,I.kept fun b o e=>hk b o (by simpa using Nat.ne_of_lt (Heap.lt_size e)) (Heap.get?_push_of_some _ e),rfl,q⟩
def rSlS:V → Option Int → Option Int → Hp → VK → Prop:=fun x lo hi H Q=>∃ z,x = .str z ∧ z.length ≤ sizeLine ∧ Q (.str (Txt.slice z lo hi)) H
theorem sl_str:SlR X rSlS:=by
  intro pins s σ H x v vl vu lo hi sl Q I rx hs pl pu h
  obtain ⟨z,rfl,hz,q⟩:=h
  obtain ⟨t,rfl⟩:=rx
  refine ⟨"str",_,F.slot_str_getitem.lookup,typeIs_str _ _ _,?_⟩
  have fin:(Txt.slice z lo hi).length ≤ sizeLine ∧ ∀ t' k,EP X pins σ Q (.str (Txt.slice z lo hi) t') { s with toks:=k }:=⟨Nat.le_trans (Txt.slice_le z _ _) hz,fun t' k=>⟨.str _,H,I.tok k,⟨t',rfl⟩,q⟩⟩
  obtain ⟨o,ho,hc,hd⟩:=hs
  cases pl with
  | none =>
    cases pu with
    | none=>exact wpAny_getItem_str_slice (l:=none) (u:=none) (st:=none) ⟨o,ho,hc,hd⟩ rfl (post_val_or_str fin)
    | int j uj=>exact wpAny_getItem_str_slice (l:=none) (u:=some (j,uj)) (st:=none) ⟨o,ho,hc,hd⟩ rfl (post_val_or_str fin)
  | int i ui =>
    cases pu with
    | none=>exact wpAny_getItem_str_slice (l:=some (i,ui)) (u:=none) (st:=none) ⟨o,ho,hc,hd⟩ rfl (post_val_or_str fin)
    | int j uj=>exact wpAny_getItem_str_slice (l:=some (i,ui)) (u:=some (j,uj)) (st:=none) ⟨o,ho,hc,hd⟩ rfl (post_val_or_str fin)
end
structure Def (K:PySem.W.Frag) (mg:Str → Option Value) (x:Str) (st:Stmt) (ps:List Str) (f:Addr) (fd:FuncData):Prop where
  F:Fun K x x st f fd
  mg:mg x = some (.ref f)
  b:Binds K fd ps []
theorem atI_int {α:Type} {xs:List α} {i:Int} (h0:0 ≤ i) (h1:i < xs.length):∃ v,v ∈ xs ∧ xs[i.toNat]? = some v ∧ atI xs i = some v:=by
  obtain ⟨n,rfl⟩:=Int.eq_ofNat_of_zero_le h0
  have hn:n < xs.length:=by omega
  exact ⟨xs[n],List.getElem_mem hn,by simp [hn],atI_nat (List.getElem?_eq_getElem hn)⟩
theorem atI_mod {α:Type} {xs:List α} {i m:Int} (h0:0 < m) (h1:m ≤ xs.length):∃ v,v ∈ xs ∧ xs[(i % m).toNat]? = some v ∧ atI xs (i % m) = some v :=
  atI_int (Int.emod_nonneg _ (by omega)) (by have:=Int.emod_lt_of_pos i h0; omega)
end L2
namespace L2
open PySem PySem.Spec PyProof.Rows
mutual
inductive DatV (K:PySem.W.Frag) (H:Hp):V → PyData → Prop
  | non:DatV K H .non .none
  | bl (b:Bool):DatV K H (.bl b) (.bool b)
  | int (i:Int):DatV K H (.int i) (.int i)
  | str (x:Str):DatV K H (.str x) (.str x)
  | lst {a:Addr} {xs:List V} {ds:List PyData}:SqL K H a xs → DatVs K H xs ds → DatV K H (.ref a) (.list ds)
  | tup {a:Addr} {xs:List V} {ds:List PyData}:SqT K H a xs → DatVs K H xs ds → DatV K H (.ref a) (.tuple ds)
inductive DatVs (K:PySem.W.Frag) (H:Hp):List V → List PyData → Prop
  | nil:DatVs K H [] []
  | cons {x:V} {d:PyData} {xs:List V} {ds:List PyData}:DatV K H x d → DatVs K H xs ds → DatVs K H (x :: xs) (d :: ds)
end
theorem DatV.reads {X:Cx} {pins:List (Addr × Obj)} {σ:St} {H:Hp} {s:Shared} (I:Inv X pins σ H s) {v:V} {d:PyData} (h:DatV X.K H v d):∀ u,RelV v u → ∃ as,Reads s.heap u d as :=
  DatV.rec (motive_1:=fun v d _=>∀ u,RelV v u → ∃ as,Reads s.heap u d as) (motive_2:=fun xs ds _=>∀ us,Vals xs us → ∃ as,ReadsAll s.heap us ds as)
    (fun u r=>by cases (show u = Value.none from r); exact ⟨_,.none⟩)
    (fun b u r=>by cases (show u = Value.bool b from r); exact ⟨_,.bool b⟩)
    (fun i u r=>by obtain ⟨t,rfl⟩:=(show ∃ t,u = Value.int i t from r); exact ⟨_,.int i t⟩)
    (fun x u r=>by obtain ⟨t,rfl⟩:=(show ∃ t,u = Value.str x t from r); exact ⟨_,.str x t⟩)
    (fun {a xs ds} hq _ ih u r=>by
      cases (show u = Value.ref a from r)
      obtain ⟨its,rv,pl,_⟩:=I.list hq
      obtain ⟨o,ho,hc,n,hd⟩:=pl.isList
      obtain ⟨as,ra⟩:=ih its rv
      exact ⟨_,.list ho hc hd (by simpa using ra)⟩)
    (fun {a xs ds} hq _ ih u r=>by
      cases (show u = Value.ref a from r)
      obtain ⟨its,rv,pl,_⟩:=I.tuple hq
      obtain ⟨o,ho,hc,n,hd⟩:=pl
      obtain ⟨as,ra⟩:=ih its rv
      exact ⟨_,.tuple ho hc hd (by simpa using ra)⟩)
    (fun us r=>by cases r; exact ⟨_,.nil⟩)
    (fun {x d xs ds} _ _ ih1 ih2 us r=>by
      cases r with
      | cons r1 r2 =>
        obtain ⟨as,ra⟩:=ih1 _ r1
        obtain ⟨bs,rb⟩:=ih2 _ r2
        exact ⟨_,.cons ra rb⟩) h
theorem SqL.same {K:PySem.W.Frag} {H H':Hp} {a:Addr} {xs:List V} (e:Same H H') (h:SqL K H a xs):SqL K H' a xs:=e.seq h
theorem SqT.same {K:PySem.W.Frag} {H H':Hp} {a:Addr} {xs:List V} (e:Same H H') (h:SqT K H a xs):SqT K H' a xs:=by
  rcases h with (h | ⟨o,h⟩) | h
  · exact .inl (.inl (e _ _ h))
  · exact .inl (.inr ⟨o,e _ _ h⟩)
  · exact .inr h
theorem DatV.same {K:PySem.W.Frag} {H H':Hp} (e:Same H H') {v:V} {d:PyData} (h:DatV K H v d):DatV K H' v d :=
  DatV.rec (motive_1:=fun v d _=>DatV K H' v d) (motive_2:=fun xs ds _=>DatVs K H' xs ds) .non .bl .int .str (fun q _ ih=>.lst (q.same e) ih) (fun q _ ih=>.tup (q.same e) ih) .nil (fun _ _ a b=>.cons a b) h
theorem DatVs.same {K:PySem.W.Frag} {H H':Hp} (e:Same H H') {v:List V} {d:List PyData} (h:DatVs K H v d):DatVs K H' v d :=
  DatVs.rec (motive_1:=fun v d _=>DatV K H' v d) (motive_2:=fun xs ds _=>DatVs K H' xs ds) .non .bl .int .str (fun q _ ih=>.lst (q.same e) ih) (fun q _ ih=>.tup (q.same e) ih) .nil (fun _ _ a b=>.cons a b) h
section
variable {X:Cx}
def rEqD (K:PySem.W.Frag) (neg:Bool):R2:=fun x y H Q=>∃ d e,DatV K H x d ∧ DatV K H y e ∧ SeqAt.shaped d = true ∧ SeqAt.shaped e = true ∧ Q (.bl (if neg then !PyData.eqv d e else PyData.eqv d e)) H
theorem op_eqD (hu:X.A.units + 64 < cLine):OpR X (compareOp .Eq) (rEqD X.K false):=by
  intro pins s σ H x y v u Q I rx ry h
  obtain ⟨d,e,hd,he,s1,s2,q⟩:=h
  obtain ⟨as,ra⟩:=hd.reads I v rx
  obtain ⟨bs,rb⟩:=he.reads I u ry
  exact eq_dataH ra rb s1 s2 hu ⟨.bl _,H,I,rfl,q⟩
theorem op_neD (hu:X.A.units + 64 < cLine):OpR X (compareOp .NotEq) (rEqD X.K true):=by
  intro pins s σ H x y v u Q I rx ry h
  obtain ⟨d,e,hd,he,s1,s2,q⟩:=h
  obtain ⟨as,ra⟩:=hd.reads I v rx
  obtain ⟨bs,rb⟩:=he.reads I u ry
  exact ne_dataH ra rb s1 s2 hu ⟨.bl _,H,I,rfl,q⟩
end
end L2
namespace L2
open PySem PySem.Spec PyProof.Rows
section
variable {P:Program} {w:World} {H H':Hp} {h h':Heap} {a:Addr} {o:HO}
theorem ObjOk.there (x:ObjOk P w H h a o):∃ ob,h.get? a = some ob:=by
  cases o with
  | lst xs=>obtain ⟨_,_,_,_,e⟩:=x; exact ⟨_,e⟩
  | tup xs=>obtain ⟨_,_,_,_,e,_⟩:=x; exact ⟨_,e⟩
  | dK kvs=>obtain ⟨_,_,_,_,o,_,_,e,_⟩:=x; exact ⟨_,e⟩
  | dT kvs=>obtain ⟨_,_,_,_,o,_,_,e,_⟩:=x; exact ⟨_,e⟩
  | set S n=>obtain ⟨o,_,_,_,e,_⟩:=x; exact ⟨_,e⟩
  | ins C dx fs=>obtain ⟨_,_,_,e,_⟩:=x; exact ⟨_,e⟩
  | own y=>obtain ⟨_,e⟩:=x; exact ⟨_,e⟩
  | xd fs=>obtain ⟨_,⟨_,_,_,e,_⟩,_⟩:=x; exact ⟨_,e⟩
  | rng lo hi=>obtain ⟨_,_,_,e⟩:=x; exact ⟨_,e⟩
  | frz ob u=>obtain ⟨e,_⟩:=x; exact ⟨_,e⟩
  | tbl ps=>exact ⟨_,(show h.get? a = some _ from x)⟩
  | met f y=>exact ⟨_,(show h.get? a = some _ from x)⟩
  | ext φ=>obtain ⟨_,⟨_,e⟩,_⟩:=x; exact ⟨_,e⟩
end
structure Fly (P:Program) (w:World) (outer:List Env) (H H':Hp) (s:Shared) (ea:Addr) (cls:Value) (s':Shared):Prop where
  os:s'.os = s.os
  bare:AllBare s'.gens
  un:Un (frs outer) [] H H' s.heap s'.heap
  fly:∃ B a0,Heap.FlyingW B outer ea cls a0 s'.heap ∧ HOk P w H' B ∧ (∀ b o,s.heap.get? b = some o → H b = none → b ∉ frs outer → B.get? b = some o) ∧ (∀ b o,s.heap.get? b = some o → b ∉ frs outer → ∃ o',B.get? b = some o')
def CX1 (P:Program) (w:World):CXT:=fun outer H s E e s'=>∃ ea cls H',e = .ref ea ∧ Fly P w outer H H' s ea cls s' ∧ E cls none H'
section
variable {P:Program} {w:World} {outer:List Env} {H H':Hp} {s s':Shared} {ea:Addr} {cls:Value}
theorem Fly.turn {B:Heap} {a0:Value} {h'':Heap} (f:Fly P w outer H H' s ea cls s') (hfl:Heap.FlyingW B outer ea cls a0 s'.heap) (hok:HOk P w H' B) (h3:∀ b o,s.heap.get? b = some o → H b = none → b ∉ frs outer → B.get? b = some o)
    (h4:∀ b o,s.heap.get? b = some o → b ∉ frs outer → ∃ o',B.get? b = some o') (hfl':Heap.FlyingW B outer ea cls a0 h'') (sm:s'.heap.UpToSlots h''):Fly P w outer H H' s ea cls { s' with heap:=h'' }:=by
  have fr:∀ b o',b ∈ frs outer → s'.heap.get? b = some o' → ∃ sl,h''.get? b = some { o' with slots:=sl }:=fun b o' hb e=>by
    obtain ⟨_,o1,e1,d1⟩:=hfl.2.2.1.mem hb
    rw [e] at e1; cases e1
    exact sm b o' e d1
  refine ⟨f.os,f.bare,⟨fun b o e n hb _=>hfl'.1 _ _ (h3 b o e n hb),fun b o e n hb hx=>?_,f.un.free,fun b o e hx=>?_,f.un.tups,f.un.frzs,f.un.tbls⟩,B,a0,hfl',hok,h3,h4⟩
  · obtain ⟨sl,e1⟩:=f.un.slot b o e n hb hx
    obtain ⟨sl',e2⟩:=fr b _ hb e1
    exact ⟨sl',e2⟩
  · by_cases hb:b ∈ frs outer
    · obtain ⟨o',e1⟩:=f.un.there b o e hx
      obtain ⟨sl',e2⟩:=fr b _ hb e1
      exact ⟨_,e2⟩
    · obtain ⟨o',e1⟩:=h4 b o e hb
      exact ⟨o',hfl'.1 _ _ e1⟩
theorem Fly.free (f:Fly P w outer H H' s ea cls s'):H' ea = none:=by
  obtain ⟨B,a0,hfl,hok,_⟩:=f.fly
  cases q:H' ea with
  | none=>rfl
  | some o =>
    obtain ⟨ob,e⟩:=(hok ea o q).there
    rw [hfl.2.1] at e; cases e
theorem Fly.hok (f:Fly P w outer H H' s ea cls s'):HOk P w H' s'.heap:=by
  obtain ⟨B,a0,hfl,hok,_⟩:=f.fly
  exact hok.kept fun b u e=>hfl.1 b u e
theorem Fly.new (f:Fly P w outer H H' s ea cls s'):s.heap.get? ea = none:=by
  obtain ⟨B,a0,hfl,hok,h3,h4⟩:=f.fly
  cases q:s.heap.get? ea with
  | none=>rfl
  | some o =>
    by_cases hb:ea ∈ frs outer
    · obtain ⟨_,o1,e1,d1⟩:=hfl.2.2.1.mem hb
      obtain ⟨_,_,_,oe,vs,T,oT,ts,he,_,hd,_⟩:=hfl
      rw [e1] at he; cases he
      exact absurd hd (d1 vs)
    · obtain ⟨o',e⟩:=h4 ea o q hb
      rw [hfl.2.1] at e; cases e
theorem Fly.at (f:Fly P w outer H H' s ea cls s'):∃ oe vs,s'.heap.get? ea = some oe ∧ oe.cls = cls ∧ oe.data = .fields vs:=by
  obtain ⟨B,a0,hfl,_⟩:=f.fly
  obtain ⟨oe,vs,he,hc,hd,_⟩:=hfl.first
  exact ⟨oe,vs,he,hc,hd⟩
end
structure Own (X:Cx):Prop where
  stack:X.stack = X.env :: X.outer
  frame:X.env.frame = some X.env.locals
  ex:X.ex = []
section
variable {X:Cx} {pins:List (Addr × Obj)} {σ:St} {H H':Hp} {s s':Shared} {ea:Addr} {cls:Value}
theorem Own.frs (O:Own X):frs X.stack = X.env.locals :: X.fs:=by
  rw [O.stack]
  show (X.env :: X.outer).filterMap _ = _
  rw [List.filterMap_cons,O.frame]
  rfl
theorem Inv.old (I:Inv X pins σ H s) {b:Addr} {o:Obj} (e:X.s₀.heap.get? b = some o):b ≠ X.env.locals:=Nat.ne_of_lt (Nat.lt_of_lt_of_le (Heap.lt_size e) I.ok.above)
theorem Inv.oldStk (O:Own X) (I:Inv X pins σ H s) {b:Addr} {o:Obj} (e:X.s₀.heap.get? b = some o) (hb:b ∉ X.fs):b ∉ L2.frs X.stack:=by
  rw [O.frs]
  intro z
  rcases List.mem_cons.mp z with q | q
  · exact I.old e q
  · exact hb q
theorem Fly.on (O:Own X) (I:Inv X pins σ H s) (f:Fly X.prog X.w X.stack H H' s ea cls s') {h'':Heap} (B:Heap) (a0:Value) (hfl:Heap.FlyingW B X.stack ea cls a0 s'.heap) (hok:HOk X.prog X.w H' B)
    (h3:∀ b o,s.heap.get? b = some o → H b = none → b ∉ frs X.stack → B.get? b = some o) (h4:∀ b o,s.heap.get? b = some o → b ∉ frs X.stack → ∃ o',B.get? b = some o') (hfl':Heap.FlyingW B X.outer ea cls a0 h'') (sm:s'.heap.UpToSlots h'') :
    Fly X.prog X.w X.outer X.H₀ H' X.s₀ ea cls { s' with heap:=h'' }:=by
  have nex:∀ b:Addr,b ∉ X.ex:=fun b z=>by rw [O.ex] at z; exact nomatch z
  have fsS:∀ b,b ∈ X.fs → b ∈ frs X.stack:=fun b hb=>by rw [O.frs]; exact List.mem_cons_of_mem _ hb
  have fr:∀ b o',b ∈ X.fs → s'.heap.get? b = some o' → ∃ sl,h''.get? b = some { o' with slots:=sl }:=fun b o' hb e=>by
    obtain ⟨_,o1,e1,d1⟩:=hfl.2.2.1.mem (fsS b hb)
    rw [e] at e1; cases e1
    exact sm b o' e d1
  have k3:∀ b o,X.s₀.heap.get? b = some o → X.H₀ b = none → b ∉ X.fs → B.get? b = some o:=fun b o e n hb=>h3 b o (I.base.keep b o e n hb (nex b)) (I.base.free b o e n (nex b)) (I.oldStk O e hb)
  have k4:∀ b o,X.s₀.heap.get? b = some o → b ∉ X.fs → ∃ o',B.get? b = some o':=fun b o e hb=>by
    obtain ⟨o1,e1⟩:=I.base.there b o e (nex b)
    exact h4 b o1 e1 (I.oldStk O e hb)
  refine ⟨f.os.trans I.os,f.bare,⟨fun b o e n hb _=>hfl'.1 _ _ (k3 b o e n hb),fun b o e n hb _=>?_,fun b o e n _=>?_,fun b o e _=>?_,fun b xs q=>f.un.tups b xs (I.base.tups b xs q),fun b o u q=>f.un.frzs b o u (I.base.frzs b o u q),fun b ps q=>?_⟩,B,a0,hfl',hok,k3,k4⟩
  · obtain ⟨sl,e1⟩:=I.base.slot b o e n hb (nex b)
    obtain ⟨sl1,e2⟩:=f.un.slot b _ e1 (I.base.free b o e n (nex b)) (fsS b hb) (by simp)
    obtain ⟨sl2,e3⟩:=fr b _ hb e2
    exact ⟨sl2,e3⟩
  · obtain ⟨o1,e1⟩:=I.base.there b o e (nex b)
    exact f.un.free b o1 e1 (I.base.free b o e n (nex b)) (by simp)
  · by_cases hb:b ∈ X.fs
    · obtain ⟨o1,e1⟩:=I.base.there b o e (nex b)
      obtain ⟨o2,e2⟩:=f.un.there b o1 e1 (by simp)
      obtain ⟨sl,e3⟩:=fr b _ hb e2
      exact ⟨_,e3⟩
    · obtain ⟨o',e1⟩:=k4 b o e hb
      exact ⟨o',hfl'.1 _ _ e1⟩
  · obtain ⟨m1,e1⟩:=I.base.tbls b ps q
    obtain ⟨m2,e2⟩:=f.un.tbls b _ e1
    exact ⟨m1 ++ m2,by rw [e2,Array.append_assoc]⟩
theorem Inv.hid (I:Inv X pins σ H s):HOk X.prog X.w H (PySem.W.hideAll s.heap (frs X.stack)):=fun a o e=>by
  have out:∀ b u,H b = some u → b ∉ frs X.stack:=fun b u q z=>by rw [I.stkFree b z] at q; cases q
  refine (I.hok a o e).stay (fun b u hb q=>PySem.W.hideAll_get _ q ?_) (fun _ q=>q) fun _ _ q=>q
  rcases hb with rfl | hb
  · exact out _ _ e
  · exact out _ _ hb
theorem Inv.thrown (O:Own X) (I:Inv X pins σ H s) {vs:List Value} {h1 h'':Heap} {a0:Value} (mk:Heap.MadeExcOf s.heap h1 ea cls vs) (hfl':Heap.FlyingW (PySem.W.hideAll s.heap (frs X.stack)) X.outer ea cls a0 h'') (sm:h1.UpToSlots h'') :
    Fly X.prog X.w X.outer X.H₀ H X.s₀ ea cls { s with heap:=h'' }:=by
  have nex:∀ b:Addr,b ∉ X.ex:=fun b z=>by rw [O.ex] at z; exact nomatch z
  have fr:∀ b o1 sl,b ∈ X.fs → X.s₀.heap.get? b = some o1 → s.heap.get? b = some { o1 with slots:=sl } → ∃ sl,h''.get? b = some { o1 with slots:=sl }:=fun b o1 sl hb e0 e=>by
    obtain ⟨_,o2,e2,d2⟩:=I.ok.funs.mem hb
    rw [e0] at e2; cases e2
    obtain ⟨sl',q⟩:=sm b _ (mk.keeps _ _ e) d2
    exact ⟨sl',q⟩
  have k3:∀ b o,X.s₀.heap.get? b = some o → X.H₀ b = none → b ∉ X.fs → (PySem.W.hideAll s.heap (frs X.stack)).get? b = some o:=fun b o e n hb=>PySem.W.hideAll_get _ (I.base.keep b o e n hb (nex b)) (I.oldStk O e hb)
  have k4:∀ b o,X.s₀.heap.get? b = some o → b ∉ X.fs → ∃ o',(PySem.W.hideAll s.heap (frs X.stack)).get? b = some o':=fun b o e hb=>by
    obtain ⟨o1,e1⟩:=I.base.there b o e (nex b)
    exact ⟨o1,PySem.W.hideAll_get _ e1 (I.oldStk O e hb)⟩
  refine ⟨I.os,I.bare,⟨fun b o e n hb _=>hfl'.1 _ _ (k3 b o e n hb),fun b o e n hb _=>?_,fun b o e n _=>I.base.free b o e n (nex b),fun b o e _=>?_,I.base.tups,I.base.frzs,I.base.tbls⟩,_,a0,hfl',I.hid,k3,k4⟩
  · obtain ⟨sl,e1⟩:=I.base.slot b o e n hb (nex b)
    exact fr b o sl hb e e1
  · by_cases hb:b ∈ X.fs
    · obtain ⟨sl,e1⟩:=I.base.slot b o e (I.ok.frf b hb) hb (nex b)
      obtain ⟨sl',q⟩:=fr b o sl hb e e1
      exact ⟨_,q⟩
    · obtain ⟨o',e1⟩:=k4 b o e hb
      exact ⟨o',hfl'.1 _ _ e1⟩
end
def Raises (X:Cx) (E:XK):Prop:=∀ (pins:List (Addr × Obj)) (σ:St) (H:Hp) (s:Shared) (ea:Addr) (cls:Value) (vs:List Value) (h':Heap),Inv X pins σ H s → Heap.MadeExcOf s.heap h' ea cls vs → E cls none H → X.xe (.ref ea) { s with heap:=h' }
section
variable {P:Program} {w:World} {K:PySem.W.Frag} {mg:Str → Option Value} {base:Heap} {N:List Str} {qual:Str} {scope:Scope} {f:Addr} {cd:Value} {A:Around} {outer:List Env} {s:Shared} {H:Hp} {E:XK}
theorem own_def {CX:CXT}:Own (cxOf CX P w K mg base N qual scope f cd A outer s H E):=⟨rfl,rfl,rfl⟩
theorem pass1:Passes (CX1 P w) (cxOf (CX1 P w) P w K mg base N qual scope f cd A outer s H E) E:=by
  intro pins σ H1 s1 e s' I hx
  obtain ⟨ea,cls,H',rfl,fl,hE⟩:=hx
  obtain ⟨B,a0,hfl,hok,h3,h4⟩:=id fl.fly
  show wpAny _ _ (leaving _ _) _ _ _
  exact wpAny_leaves_onW (L:=(cxOf (CX1 P w) P w K mg base N qual scope f cd A outer s H E).env.locals) I.ok.frames rfl hfl fun h'' hfl' sm=>⟨ea,cls,H',rfl,fl.on own_def I B a0 hfl hok h3 h4 hfl' sm,hE⟩
theorem raises1:Raises (cxOf (CX1 P w) P w K mg base N qual scope f cd A outer s H E) E:=by
  intro pins σ H1 s1 ea cls vs h' I mk hE
  show wpAny _ _ (leaving _ _) _ _ _
  have hin:∀ env ∈ (cxOf (CX1 P w) P w K mg base N qual scope f cd A outer s H E).stack,∀ b,env.frame = some b → b ∈ frs (cxOf (CX1 P w) P w K mg base N qual scope f cd A outer s H E).stack:=fun env he b hb=>List.mem_filterMap.mpr ⟨env,he,hb⟩
  exact wpAny_leaves_madeW (s:={ s1 with heap:=h' }) (L:=(cxOf (CX1 P w) P w K mg base N qual scope f cd A outer s H E).env.locals) (base:=PySem.W.hideAll s1.heap (frs (cxOf (CX1 P w) P w K mg base N qual scope f cd A outer s H E).stack)) I.ok.frames rfl
    (fun b o q=>PySem.W.of_hideAll _ q) (PySem.W.funFrames_hide I.stack hin) mk fun h'' t x1 x2 x3 x4=>⟨ea,cls,H1,rfl,I.thrown own_def mk x1 x4,hE⟩
end
theorem passE {P:Program} {w:World} {X:Cx}:Passes (CX1 P w) X E0:=fun _ _ _ _ _ _ _ ⟨_,_,_,_,_,h⟩=>h.elim
structure ExcCls (K:PySem.W.Frag) (mg:Str → Option Value) (x:Str) (C:Addr):Prop where
  mg:mg x = some (.ref C)
  ns:PySem.W.nsIn K mainGlobals x = some (some (.ref C))
  exc:PySem.W.excIn K C [.type "ValueError",.type "Exception",.type "BaseException",.type "object"] "ValueError.__new__" = true
theorem exc_obj {K:PySem.W.Frag} {h:Heap} {C:Addr} {bmB:List Value} {newId:String} (X:K.In h) (q:PySem.W.excIn K C bmB newId = true) :
    ∃ bm N nm qn bs hdct sn sub ab col dd k0 k1 k2 k3 k5 mN,h.get? C = some (excClassObj nm qn C N bs bm hdct sn sub ab col dd k0 k1 k2 k3 k5 newId) ∧ h.Ns N mN ∧ mN "__init__" = none ∧ OwnTail h bmB bm:=by
  unfold PySem.W.excIn at q
  split at q
  · rename_i dd cd sl ho
    split at q
    · rename_i C' bm k0 k1 k2 k3 n k5 hm hs
      simp only [Bool.and_eq_true,beq_iff_eq,Bool.not_eq_true'] at q
      obtain ⟨⟨⟨⟨⟨rfl,rfl⟩,hdel⟩,ht⟩,hok⟩,hni⟩:=q
      obtain ⟨nm,bs,mro,ns,qn,hd,sn,sub,ab,col,del⟩:=cd
      dsimp only at hm hdel hok hni
      subst hm hdel
      have hsl:sl = #[k0,k1,k2,k3,some (.builtin n),k5]:=by
        obtain ⟨l⟩:=sl
        simp only at hs
        rw [hs]
      subst hsl
      exact ⟨bm,ns,nm,qn,bs,hd,sn,sub,ab,col,dd,k0,k1,k2,k3,k5,_,X _ _ ho,.of_isNs (PySem.W.isNs_of_in X hok),PySem.W.nsMap_none_of_in X hok hni,PySem.W.tail_of_in X ht⟩
    · cases q
  · cases q
section
variable {X:Cx} {x:Str} {C:Addr} {np cpos pos:Pos} {e:Expr} {es:List Expr} {t:TA} {E:XK}
def tRaise (C:Addr) (E:XK) (t:TA):TS:=fun _ σ H=>t σ H fun vs H1=>vs.length ≤ sizeLine ∧ E (.ref C) none H1
theorem ps_raise (c:ExcCls X.K X.mg x C) (hc:X.calm = true) (hr:Raises X E) (hg:Gl X x) (ha:PA X (e :: es) t) (hd:(x == ("__debug__":Str)) = false:=by decide)
    (he:starEach (e :: es) X.env = (false,eval e X.env) :: starEach es X.env:=by rfl) (hpl:(backTo cpos (starEach es X.env)).any (·.1) = false:=by rfl):PS X (.Raise (some (.Call (.Name x np) (e :: es) [] cpos)) none pos) (tRaise C E t):=by
  intro pins s σ H D I h
  obtain ⟨tl,N,nm,q,bs,hdct,sn,sub,ab,col,dd,k0,k1,k2,k3,k5,mN,hC,hN,hni,T⟩:=exc_obj I.ok.mod.kin c.exc
  refine wpAny_Raise_call_subT (C:=C) (nm:=nm) (q:=q) (N:=N) (bs:=bs) (bm:=tl) (hdct:=hdct) (sn:=sn) (sub:=sub) (ab:=ab) (col:=col) (dd:=dd) (k0:=k0) (k1:=k1) (k2:=k2) (k3:=k3) (k5:=k5)
    PySem.F.excBase_ValueError (mN:=mN) (T.hasType PySem.F.excBase_ValueError.hasBase) (I.ok.hd hc) (by rw [he]; show (false || (backTo cpos (starEach es X.env)).any (·.1)) = false; rw [hpl]; rfl) hni (ld_glob I hg c.mg ⟨rfl,?_⟩ hd)
  have h2:=ha cpos pins s σ H _ I h
  rw [he] at h2 ⊢
  refine Calls.evalArgs_plain (wpAny_mono h2 (fun us s2 ⟨vs,H2,I2,r,hz,hE⟩=>?_) fun _ _ y=>y)
  exact ⟨rfl,by rw [← r.length]; exact hz,I2.bk _ _ hC,hN.keeps I2.bk,T.keeps I2.bk,fun h' ea mk=>hr pins σ H2 s2 ea (.ref C) us h' I2 mk hE⟩
end
theorem Fun.okX {P:Program} {w:World} {K:PySem.W.Frag} {mg:Str → Option Value} {base:Heap} {x qual:Str} {st:Stmt} {f:Addr} {fd:FuncData} {N ps:List Str} {k:Nat} {sp:Sp} (F:Fun K x qual st f fd) (S:FnScope N ps (defScope st)) (len:∀ vs H Q E,sp vs H Q E → vs.length = ps.length)
    (hbody:∀ (cdv:Value) (A:Around) (outer:List Env) (s:Shared) (H:Hp) (vs:List V) (Q:VK) (E:XK),Room k (A.deeper (envOfC qual (defScope st) s.heap.objs.size f cdv)) → sp vs H Q E →
      ∃ t,PSs (cxOf (CX1 P w) P w K mg base N qual (defScope st) f cdv A outer s H E) (defBody st) t ∧ t { nx:=fun _ H'=>Q .non H',rt:=Q } (start N vs) H):FnOk P w K mg base (CX1 P w) (k + 1) f fd ps sp:=by
  obtain ⟨oc,od,kV,doc,pm,an,cdv,ct,osl,rfl,lk,hcd⟩:=F.ex
  exact fn_of lk hcd S len fun A outer s H vs Q E hr hsp=>hbody cdv A outer s H vs Q E hr hsp
end L2
namespace L2
open PySem PySem.Spec PyProof.Rows
theorem Inv.track {X:Cx} {pins:List (Addr × Obj)} {σ:St} {H:Hp} {s:Shared} {a:Addr} {o:HO} (I:Inv X pins σ H s) (hn:H a = none) (new:ObjOk X.prog X.w (upd H a o) s.heap a o) (h0:X.s₀.heap.get? a = none) (hL:a ≠ X.env.locals)
    (hC:∀ x c,X.env.cells.lookup x = some c → c ≠ a) (hp:∀ p ∈ X.pn ++ pins,p.1 ≠ a):Inv X pins σ (upd H a o) s:=by
  have ne:∀ b ob,X.s₀.heap.get? b = some ob → b ≠ a:=fun b ob e z=>by rw [z,h0] at e; cases e
  have tr:∀ b u,H b = some u → upd H a o b = some u:=fun b u e=>by rw [upd_ne (ne_of_none e hn)]; exact e
  refine ⟨I.ok,I.os,I.bare,⟨I.base.keep,I.base.slot,fun b ob e n hx=>by rw [upd_ne (ne b ob e)]; exact I.base.free b ob e n hx,I.base.there,fun b xs q=>tr _ _ (I.base.tups b xs q),fun b ob u q=>tr _ _ (I.base.frzs b ob u q),fun b ps q=>?_⟩,
    I.loc,I.cell,by rw [upd_ne (Ne.symm hL)]; exact I.free,fun x c e=>by rw [upd_ne (hC x c e)]; exact I.freeC x c e,fun p q=>?_,I.hok.track hn new,I.len⟩
  · obtain ⟨m,e⟩:=I.base.tbls b ps q
    exact ⟨m,tr _ _ e⟩
  · obtain ⟨q1,q2,q3⟩:=I.pin p q
    exact ⟨q1,by rw [upd_ne (hp p q)]; exact q2,q3⟩
def XP (X:Cx) (pins:List (Addr × Obj)) (σ:St) (E:XK) (ev:Value) (s':Shared):Prop:=∃ H s0,Inv X pins σ H s0 ∧ CX1 X.prog X.w X.stack H s0 E ev s'
abbrev TX:=St → Hp → VK → XK → Prop
section
variable {X:Cx} {k:Nat} {f C:Addr} {fd:FuncData} {ps:List Str} {sp:Sp} {dvs:List V} {ds:List Value} {x m:Str} {p pos apos:Pos} {e o:Expr} {es:List Expr} {ta:TE} {t:TA}
end
def Cx.suite (X:Cx) (ea:Addr):Cx:={ X with A:=X.A.mark (some (.ref ea)),calm:=false,xe:=fun _ _=>False }
section
variable {X:Cx} {pins:List (Addr × Obj)} {σ:St} {H:Hp} {s:Shared} {ea:Addr}
theorem Inv.suite (I:Inv X pins σ H s) (ea:Addr):Inv (X.suite ea) pins σ H s :=
  ⟨⟨I.ok.mod,I.ok.kind,I.ok.glob,I.ok.blt,I.ok.above,I.ok.inj,I.ok.has,I.ok.cab,fun q=>(nomatch q),I.ok.frames,I.ok.stk,I.ok.exf,I.ok.bs,I.ok.bsz,I.ok.noex,I.ok.exfs,I.ok.funs,I.ok.frf⟩,I.os,I.bare,I.base,I.loc,I.cell,I.free,I.freeC,I.pin,I.hok,I.len⟩
end
section
variable {X:Cx} {e:Expr} {c n:Str} {b₀:Stmt} {suite:List Stmt} {epos np hpos pos:Pos} {te:TX} {ts:TS} {cv:Value} {i:Nat}
end
end L2
namespace L2
open PySem PySem.Spec PyProof.Rows
section
variable {prog:Program} {w:World} {A:Around} {E:Value → Shared → Prop} {K:PySem.W.Frag} {h:Heap} {g:Array GenState} {d:Drawn} {t:Nat} {os:OsState} {a D:Addr} {o:Obj} {vs:Array Value}
structure ExcLk (K:PySem.W.Frag) (D:Addr):Prop where
  ga:PySem.W.findIn K (.ref D) "__getattribute__" = some (some (.builtin "BaseException.__getattribute__"))
  gt:PySem.W.findIn K (.ref D) "__getattr__" = some none
  cl:PySem.W.findIn K (.ref D) "__class__" = some (some (.builtin "object.__class__"))
  mro:PySem.W.mroIn K D (.type "object") = some true
  sub:PySem.W.subIn K (.ref D) (.type "BaseException") = some true
  cls:(PySem.W.clsIn K D).isSome = true
section
open PySem.W Builtin Builtin.ObjectAttr Builtin.Getset_descriptor
end
end
section
variable {X:Cx}
end
structure RoomN (k:Nat) (A:Around):Prop where
  dp:A.depth + 3 * k + 5 < recursionLimit
  un:A.units + 16 * k + 200 < cLine
theorem Room.n {k:Nat} {A:Around} (r:Room k A):RoomN k A:=⟨r.dp,r.un⟩
theorem RoomN.mono {j k:Nat} {A:Around} (r:RoomN k A) (h:j ≤ k):RoomN j A:=⟨by have:=r.dp; omega,by have:=r.un; omega⟩
theorem RoomN.mark {k:Nat} {A:Around} (r:RoomN k A) (hd:Option Value):RoomN k (A.mark hd):=⟨r.dp,r.un⟩
theorem RoomN.deeper {k:Nat} {A:Around} (r:RoomN (k + 1) A) (env:Env):RoomN k (A.deeper env) :=
  ⟨by have:=r.dp; show A.depth + 1 + 3 * k + 5 < _; omega,by have:=r.un; show A.units + 3 + 16 * k + 200 < _; omega⟩
theorem RoomN.depth {k:Nat} {A:Around} (r:RoomN k A):A.depth < recursionLimit:=by have:=r.dp; omega
theorem RoomN.units {k:Nat} {A:Around} (r:RoomN k A):A.units + 64 < cLine:=by have:=r.un; omega
structure FnOkN (P:Program) (w:World) (K:PySem.W.Frag) (mg:Str → Option Value) (base:Heap) (k:Nat) (f:Addr) (fd:FuncData) (ps:List Str) (sp:Sp):Prop where
  len:∀ vs H Q E,sp vs H Q E → vs.length = ps.length
  run:∀ (A:Around) (outer:List Env) (s:Shared) (H:Hp) (args:Args) (us:List Value) (vs:List V) (Q:VK) (E:XK),RoomN k A → Env0 P w K mg base A outer s H → BindsTo s fd args (ps.zip us) → Vals vs us → sp vs H Q E →
    codeAny (model P w) A (.call (.ref f) args) (CR CX0 outer P w H s Q E) s
theorem FnOkN.calm {P:Program} {w:World} {K:PySem.W.Frag} {mg:Str → Option Value} {base:Heap} {k:Nat} {f:Addr} {fd:FuncData} {ps:List Str} {sp:Sp} (F:FnOkN P w K mg base k f fd ps sp):FnOk P w K mg base CX0 k f fd ps sp :=
  ⟨F.len,fun A outer s H args us vs Q E hr=>F.run A outer s H args us vs Q E hr.n⟩
def cxOfN (P:Program) (w:World) (K:PySem.W.Frag) (mg:Str → Option Value) (base:Heap) (N:List Str) (qual:Str) (scope:Scope) (f:Addr) (cd:Value) (A:Around) (outer:List Env) (s:Shared) (H:Hp):Cx :=
  { cxOf CX0 P w K mg base N qual scope f cd A outer s H E0 with calm:=false,xe:=fun _ _=>False }
section
variable {X:Cx} {k:Nat} {f:Addr} {fd:FuncData} {ps:List Str} {sp:Sp} {dvs:List V} {ds:List Value} {x:Str} {p pos:Pos} {e:Expr} {es:List Expr} {t:TA} {E:XK}
end
structure ClsM (K:PySem.W.Frag) (B:Addr) (m:Str) (f:Addr):Prop where
  sp:PySem.W.specialIn K (.ref B) "__getattribute__" = some (some (.builtin "type.__getattribute__"))
  rd:PySem.W.readsIn K B (.type "type") = true
  fd:PySem.W.findCls K (.ref B) (.type "type") m = some (.val (.ref f))
  kp:PySem.W.keepIn K (.ref f) = true
section
variable {X:Cx} {CX:CXT} {k:Nat} {f B:Addr} {fd:FuncData} {ps:List Str} {sp:Sp} {dvs:List V} {ds:List Value} {E:XK} {x m:Str} {p pos apos:Pos} {e:Expr} {es:List Expr} {t:TA}
theorem pe_clsm {pl:Sem Bool} (hg:Gl X x) (hmg:X.mg x = some (.ref B)) (c:ClsM X.K B m f) (F:FnOk X.prog X.w X.K X.mg X.base CX k f fd ps sp) (hr:Room k X.A) (hb:Binds X.K fd ps ds) (hd:Vals dvs ds) (hx:Passes CX X E) (ha:PA X (e :: es) t)
    (hdb:(x == ("__debug__":Str)) = false:=by decide) (hst:starEach (e :: es) X.env = (false,eval e X.env) :: starEach es X.env:=by rfl) (hpl:(backTo pos (starEach es X.env)).any (·.1) = false:=by rfl)
    (ht:eval (.Call (.Attribute (.Name x p) m apos) (e :: es) [] pos) X.env = (do
      let ov ← eval (.Name x p) X.env
      standAt apos.atName
      let (f,first) ← holding [ov] (getMethod ov m pl)
      callWith pos f first (backTo pos (starEach (e :: es) X.env)) (backToKw pos (keywordEach [] X.env))):=by rfl) :
    PE X (.Call (.Attribute (.Name x p) m apos) (e :: es) [] pos) (tCall sp dvs E t):=by
  intro pins s σ H Q I h
  refine PySem.W.methodCall_KW (pl:=pl) (ld_glob I hg hmg ?_ hdb) ht
  refine PySem.W.method_cls I.kIn c.sp (PySem.W.cls_value I.kIn c.rd c.fd rfl ?_)
  have I':=I.tok (s.toks + 1)
  refine PySem.W.callWith_K (first:=[]) (h₀:=X.base) I.ok.mod.kin c.kp (thn (ha pos pins { s with toks:=s.toks + 1 } σ H _ I' h) fun us s2 ⟨vs,H2,I2,r,q2⟩=>⟨I2.kIn,?_⟩) hst hpl
  exact run_fn F hr hb hd hx I2 r q2
end
section
variable {X:Cx}
def rInsert:V → List V → Hp → VK → Prop:=fun x vs H Q=>∃ l xs i y,x = .ref l ∧ vs = [.int i,y] ∧ H l = some (.lst xs) ∧ 0 ≤ i ∧ i ≤ xs.length ∧ xs.length < sizeLine ∧ Q .non (upd H l (.lst (xs.take i.toNat ++ y :: xs.drop i.toNat)))
end
end L2
namespace L2
open PySem PySem.Spec PyProof.Rows
section
variable {X:Cx}
theorem CallR.imp {f:Value} {r r':List V → Hp → VK → Prop} (h:CallR X f r) (hi:∀ xs H Q,r' xs H Q → r xs H Q):CallR X f r':=fun pins s σ H xs us Q I rs q=>h pins s σ H xs us Q I rs (hi _ _ _ q)
def rLenL (K:PySem.W.Frag):List V → Hp → VK → Prop:=fun xs H Q=>∃ p ys,xs = [.ref p] ∧ SqL K H p ys ∧ Q (.int ys.length) H
def rLenT (K:PySem.W.Frag):List V → Hp → VK → Prop:=fun xs H Q=>∃ p ys,xs = [.ref p] ∧ SqT K H p ys ∧ Q (.int ys.length) H
def rListL (K:PySem.W.Frag):List V → Hp → VK → Prop:=fun xs H Q=>∃ p ys,xs = [.ref p] ∧ SqL K H p ys ∧ ∀ l,H l = none → Q (.ref l) (upd H l (.lst ys))
def rListT (K:PySem.W.Frag):List V → Hp → VK → Prop:=fun xs H Q=>∃ p ys,xs = [.ref p] ∧ SqT K H p ys ∧ ∀ l,H l = none → Q (.ref l) (upd H l (.lst ys))
def rTupL (K:PySem.W.Frag):List V → Hp → VK → Prop:=fun xs H Q=>∃ p ys,xs = [.ref p] ∧ SqL K H p ys ∧ ∀ l,H l = none → Q (.ref l) (upd H l (.tup ys))
def rTupT (K:PySem.W.Frag):List V → Hp → VK → Prop:=fun xs H Q=>∃ p ys,xs = [.ref p] ∧ SqT K H p ys ∧ Q (.ref p) H
def rIsiT (K:PySem.W.Frag):List V → Hp → VK → Prop:=fun xs H Q=>∃ x n t b,xs = [x,.ty n] ∧ TyOf K H x t ∧ PySem.W.kitOne K t (.type n) = some b ∧ Q (.bl b) H
theorem call_lenL:CallR X (.builtin "len") (rLenL X.K):=call_len_seq.imp fun _ _ _ ⟨p,ys,e,h,q⟩=>⟨p,ys,e,.inl h,q⟩
theorem call_lenT:CallR X (.builtin "len") (rLenT X.K):=call_len_seq.imp fun _ _ _ ⟨p,ys,e,h,q⟩=>⟨p,ys,e,.inr h,q⟩
theorem call_tupL:CallR X (.type "tuple") (rTupL X.K):=call_tuple_of.imp fun _ _ _ ⟨p,ys,e,h,q⟩=>⟨p,ys,e,.inl ⟨h,q⟩⟩
end
theorem scal_ii {a b:Int}:(scal (.int a) (.int b) = true) = True:=eq_true rfl
theorem scal_ss {a b:Str}:(scal (.str a) (.str b) = true) = True:=eq_true rfl
theorem scal_bb {a b:Bool}:(scal (.bl a) (.bl b) = true) = True:=eq_true rfl
theorem Same.upd {H H':Hp} {l:Addr} {o:HO} (s:Same H H') (h:H' l = none):Same H (upd H' l o):=fun b u e=>by
  have e':=s b u e
  rw [upd_ne (ne_of_none e' h)]
  exact e'
theorem Same.put {H:Hp} {l:Addr} {o:HO} (h:H l = none):Same H (L2.upd H l o):=(Same.refl H).upd h
end L2
namespace SH
open PySem L2
abbrev LET:Str:="abcdefghijklmnopqrstuvwxyz"
def letC (c:Nat):Bool:=!(Builtin.Str.occurrences LET ⟨#[c]⟩ 0 LET.length 1).isEmpty
def markS (x:Str):Bool:=decide (1 ≤ x.length) && decide (x.length ≤ 8) && x.cps.toList.all letC
def markV:V → Bool
  | .str x=>markS x
  | _=>false
def wholeV:V → Bool
  | .int _=>true
  | _=>false
inductive Thg (H:Hp):V → Prop where
  | non:Thg H .non
  | bl (b:Bool):Thg H (.bl b)
  | int (i:Int):Thg H (.int i)
  | str (x:Str) (h:x.length ≤ 1000):Thg H (.str x)
  | lst {a:Addr} {xs:List V} (h:H a = some (.lst xs)):Thg H (.ref a)
  | tup {a:Addr} {xs:List V} (h:H a = some (.tup xs)):Thg H (.ref a)
theorem Thg.same {H H':Hp} {v:V} (s:Same H H') (t:Thg H v):Thg H' v:=by
  cases t with
  | non=>exact .non
  | bl b=>exact .bl b
  | int i=>exact .int i
  | str x h=>exact .str x h
  | lst h=>exact .lst (s _ _ h)
  | tup h=>exact .tup (s _ _ h)
def isStr:V → Bool
  | .str _=>true
  | _=>false
def isInt:V → Bool
  | .int _=>true
  | .bl _=>true
  | _=>false
def isBl:V → Bool
  | .bl _=>true
  | _=>false
section
variable {K:PySem.W.Frag}
theorem Thg.ty {H:Hp} {v:V} (t:Thg H v):∃ y,TyOf K H v y ∧ PySem.W.kitOne K y (.type "str") = some (isStr v) ∧ PySem.W.kitOne K y (.type "int") = some (isInt v) ∧ PySem.W.kitOne K y (.type "bool") = some (isBl v):=by
  cases t with
  | non=>exact ⟨_,.non,by kernel_rfl,by kernel_rfl,by kernel_rfl⟩
  | bl b=>exact ⟨_,.bl b,by kernel_rfl,by kernel_rfl,by kernel_rfl⟩
  | int i=>exact ⟨_,.int i,by kernel_rfl,by kernel_rfl,by kernel_rfl⟩
  | str x h=>exact ⟨_,.str x,by kernel_rfl,by kernel_rfl,by kernel_rfl⟩
  | lst h=>exact ⟨_,.lst h,by kernel_rfl,by kernel_rfl,by kernel_rfl⟩
  | tup h=>exact ⟨_,.tup h,by kernel_rfl,by kernel_rfl,by kernel_rfl⟩
theorem Thg.isList {H:Hp} {v:V} (t:Thg H v):∃ y b,TyOf K H v y ∧ PySem.W.kitOne K y (.type "list") = some b ∧ ((b = true ∧ ∃ a xs,v = .ref a ∧ H a = some (.lst xs)) ∨ (b = false ∧ ∀ a xs,v = .ref a → H a ≠ some (.lst xs))):=by
  cases t with
  | non=>exact ⟨_,false,.non,by kernel_rfl,.inr ⟨rfl,fun _ _ z=>nomatch z⟩⟩
  | bl b=>exact ⟨_,false,.bl b,by kernel_rfl,.inr ⟨rfl,fun _ _ z=>nomatch z⟩⟩
  | int i=>exact ⟨_,false,.int i,by kernel_rfl,.inr ⟨rfl,fun _ _ z=>nomatch z⟩⟩
  | str x h=>exact ⟨_,false,.str x,by kernel_rfl,.inr ⟨rfl,fun _ _ z=>nomatch z⟩⟩
  | lst h=>exact ⟨_,true,.lst h,by kernel_rfl,.inl ⟨rfl,_,_,rfl,h⟩⟩
  | tup h=>exact ⟨_,false,.tup h,by kernel_rfl,.inr ⟨rfl,fun _ _ z e=>by cases z; rw [h] at e; cases e⟩⟩
end
theorem all_take_succ {p:Nat → Bool} {l:List Nat} {i c:Nat} (h:l[i]? = some c):(l.take (i + 1)).all p = ((l.take i).all p && p c):=by
  rw [List.take_add_one,h]
  simp
theorem at_str {z:Str} {i m:Int} (h0:0 < m) (h1:m ≤ z.length):∃ c,c ∈ z.cps.toList ∧ atI z.cps.toList (i % m) = some c:=by
  obtain ⟨v,hm,_,e⟩:=atI_mod (xs:=z.cps.toList) (i:=i) h0 (by simpa [Str.length] using h1)
  exact ⟨v,hm,e⟩
theorem one_len (c:Nat):(⟨#[c]⟩:Str).length = 1:=rfl
def cellF (ns:List Int) (k:Nat):Int:=ns.getD k 0
def mixF (seed k:Int):Int:=(seed % 10 ^ 20 + 17 * k + k * k * k + 5) * 48271 % 1000003 * 69621 % 999983
def StIs (σ τ:St):Prop:=σ = τ
theorem StIs.rfl {σ:St}:StIs σ σ:=Eq.refl σ
theorem StIs.eq {σ τ:St} (h:StIs σ τ):σ = τ:=h
def GoodL (n:Nat) (H:Hp) (v:V):Prop:=∃ a xs,v = .ref a ∧ H a = some (.lst xs) ∧ xs.length ≤ n
def GoodM (n:Nat) (H:Hp) (v:V):Prop:=∃ a xs,v = .ref a ∧ H a = some (.lst xs) ∧ xs.length ≤ n ∧ xs.all markV = true
def Thg2 (H:Hp) (v:V):Prop:=Thg H v ∧ ∀ a xs,v = .ref a → H a = some (.lst xs) → ∀ x ∈ xs,Thg H x
theorem Thg.back {H H':Hp} {v:V} {a:Addr} {xs:List V} (t:Thg H v) (s:Same H H') (e:v = .ref a) (h:H' a = some (.lst xs)):H a = some (.lst xs):=by
  cases t with
  | non=>cases e
  | bl b=>cases e
  | int i=>cases e
  | str x h=>cases e
  | lst h1=>cases e; rw [s _ _ h1] at h; cases h; exact h1
  | tup h1=>cases e; rw [s _ _ h1] at h; cases h
theorem Thg2.same {H H':Hp} {v:V} (s:Same H H') (t:Thg2 H v):Thg2 H' v:=⟨t.1.same s,fun a xs e h x hx=>(t.2 a xs e (t.1.back s e h) x hx).same s⟩
theorem GoodM.back {n:Nat} {H H':Hp} {v:V} (t:Thg H v) (s:Same H H') (g:GoodM n H' v):GoodM n H v:=by
  obtain ⟨a,xs,e,h,l,m⟩:=g
  exact ⟨a,xs,e,t.back s e h,l,m⟩
theorem thg2_lst {H:Hp} {a:Addr} {xs:List V} (h:H a = some (.lst xs)) (hx:∀ x ∈ xs,Thg H x):Thg2 H (.ref a):=⟨.lst h,fun a' xs' e h' x m=>by cases e; rw [h] at h'; cases h'; exact hx x m⟩
theorem app_list (a y:Str):(a ++ y).cps.toList = a.cps.toList ++ y.cps.toList:=by
  rw [PySem.Str.cps_append,Array.toList_append]
theorem all_marks {zs:List Str} (h:∀ z ∈ zs,markS z = true):(zs.map V.str).all markV = true:=by
  rw [List.all_map,List.all_eq_true]
  intro z hz
  exact h z hz
theorem letC_iff {c:Nat}:letC c = true ↔ c ∈ LET.cps.toList:=by
  unfold letC
  rw [PySem.StrLaws.found_one,decide_eq_true_eq]
theorem letC_ok {c:Nat} (h:letC c = true):c < 0x110000:=by
  have h1:∀ d ∈ LET.cps.toList,d < 0x110000:=by decide +kernel
  exact h1 c (letC_iff.mp h)
theorem mark_all {z:Str} (h:markS z = true):1 ≤ z.length ∧ z.length ≤ 8 ∧ ∀ c ∈ z.cps.toList,letC c = true:=by
  unfold markS at h
  simp only [Bool.and_eq_true,decide_eq_true_eq,List.all_eq_true] at h
  exact ⟨h.1.1,h.1.2,h.2⟩
theorem mark_strOk {z:Str} (h:markS z = true):PyData.strOk z = true:=by
  unfold PyData.strOk
  rw [← Array.all_toList,List.all_eq_true]
  intro c hc
  exact decide_eq_true (letC_ok ((mark_all h).2.2 c hc))
theorem mark_of {z:Str} (h1:1 ≤ z.length) (h2:z.length ≤ 8) (h3:∀ c ∈ z.cps.toList,letC c = true):markS z = true:=by
  unfold markS
  simp only [Bool.and_eq_true,decide_eq_true_eq,List.all_eq_true]
  exact ⟨⟨h1,h2⟩,h3⟩
end SH
namespace SH
open PySem L2
theorem lookup2 {α:Type} {a b:Str} {x y:α} (h:(b == a) = false):List.lookup b [(a,x),(b,y)] = some y:=by
  rw [List.lookup_cons,h,List.lookup_cons,beq_self_eq_true]
theorem lookup_no {α:Type} {a b c:Str} {x y:α} (h:(c == a) = false) (h':(c == b) = false):List.lookup c [(a,x),(b,y)] = none:=by
  rw [List.lookup_cons,h,List.lookup_cons,h']
  rfl
theorem putF2 {a b:Str} {x y:V} (h:¬ a = b):putF b y [(a,x)] = [(a,x),(b,y)]:=by
  show (if a = b then [(a,y)] else (a,x) :: putF b y []) = _
  rw [if_neg h]
  rfl
abbrev Nd:=Str × Int
def NodeAt (H:Hp) (x:V) (n:Nd):Prop:=∃ t,x = .ref t ∧ H t = some (.tup [.str n.1,.int n.2])
def NodesAt (H:Hp):List V → List Nd → Prop
  | [],[]=>True
  | x :: xs,n :: ns=>NodeAt H x n ∧ NodesAt H xs ns
  | [],_ :: _=>False
  | _ :: _,[]=>False
theorem NodeAt.same {H H':Hp} {x:V} {n:Nd} (s:Same H H') (h:NodeAt H x n):NodeAt H' x n:=by
  obtain ⟨t,e,h⟩:=h
  exact ⟨t,e,s _ _ h⟩
theorem NodeAt.uniq {H:Hp} {x:V} {n m:Nd} (a:NodeAt H x n) (b:NodeAt H x m):n = m:=by
  obtain ⟨t,e,h⟩:=a
  obtain ⟨t',e',h'⟩:=b
  rw [e] at e'
  cases e'
  rw [h] at h'
  obtain ⟨n1,n2⟩:=n
  obtain ⟨m1,m2⟩:=m
  simp at h'
  rw [h'.1,h'.2]
theorem NodesAt.same {H H':Hp} (s:Same H H'):∀ {xs:List V} {ns:List Nd},NodesAt H xs ns → NodesAt H' xs ns
  | [],[],h=>h
  | _ :: _,_ :: _,h=>⟨h.1.same s,NodesAt.same s h.2⟩
  | [],_ :: _,h=>h.elim
  | _ :: _,[],h=>h.elim
theorem NodesAt.tups {H H':Hp} (s:∀ b ys,H b = some (.tup ys) → H' b = some (.tup ys)):∀ {xs:List V} {ns:List Nd},NodesAt H xs ns → NodesAt H' xs ns
  | [],[],h=>h
  | _ :: _,_ :: _,h=>by
    obtain ⟨⟨t,e,h1⟩,h2⟩:=h
    exact ⟨⟨t,e,s _ _ h1⟩,NodesAt.tups s h2⟩
  | [],_ :: _,h=>h.elim
  | _ :: _,[],h=>h.elim
theorem NodesAt.length {H:Hp}:∀ {xs:List V} {ns:List Nd},NodesAt H xs ns → xs.length = ns.length
  | [],[],_=>rfl
  | _ :: _,_ :: _,h=>by rw [List.length_cons,List.length_cons,NodesAt.length h.2]
  | [],_ :: _,h=>h.elim
  | _ :: _,[],h=>h.elim
theorem NodesAt.uniq {H:Hp}:∀ {xs:List V} {ns ms:List Nd},NodesAt H xs ns → NodesAt H xs ms → ns = ms
  | [],[],[],_,_=>rfl
  | _ :: _,_ :: _,_ :: _,a,b=>by rw [a.1.uniq b.1,NodesAt.uniq a.2 b.2]
  | [],_ :: _,_,a,_=>a.elim
  | [],_,_ :: _,_,b=>b.elim
  | _ :: _,[],_,a,_=>a.elim
  | _ :: _,_,[],_,b=>b.elim
theorem NodesAt.append {H:Hp}:∀ {xs ys:List V} {ns ms:List Nd},NodesAt H xs ns → NodesAt H ys ms → NodesAt H (xs ++ ys) (ns ++ ms)
  | [],_,[],_,_,b=>b
  | _ :: _,_,_ :: _,_,a,b=>⟨a.1,NodesAt.append a.2 b⟩
  | [],_,_ :: _,_,a,_=>a.elim
  | _ :: _,_,[],_,a,_=>a.elim
theorem NodesAt.split {H:Hp}:∀ {xs ys:List V} {ns:List Nd},NodesAt H (xs ++ ys) ns → ∃ n1 n2,ns = n1 ++ n2 ∧ NodesAt H xs n1 ∧ NodesAt H ys n2
  | [],_,ns,h=>⟨[],ns,rfl,trivial,h⟩
  | x :: xs,ys,[],h=>h.elim
  | x :: xs,ys,n :: ns,h=>by
    obtain ⟨n1,n2,e,a,b⟩:=NodesAt.split (xs:=xs) h.2
    exact ⟨n :: n1,n2,by rw [e]; rfl,⟨h.1,a⟩,b⟩
theorem NodesAt.get {H:Hp}:∀ {xs:List V} {ns:List Nd} {i:Nat} {x:V},NodesAt H xs ns → xs[i]? = some x → ∃ n,ns[i]? = some n ∧ NodeAt H x n
  | [],[],_,_,_,e=>by simp at e
  | _ :: _,n :: _,0,_,h,e=>by simp at e; subst e; exact ⟨n,rfl,h.1⟩
  | _ :: _,_ :: _,i + 1,x,h,e=>by
    obtain ⟨m,a,b⟩:=NodesAt.get (i:=i) (x:=x) h.2 (by simpa using e)
    exact ⟨m,by simpa using a,b⟩
  | [],_ :: _,_,_,h,_=>h.elim
  | _ :: _,[],_,_,h,_=>h.elim
theorem NodesAt.take {H:Hp}:∀ {xs:List V} {ns:List Nd} (i:Nat),NodesAt H xs ns → NodesAt H (xs.take i) (ns.take i)
  | [],[],_,_=>by simp [NodesAt]
  | _ :: _,_ :: _,0,_=>trivial
  | _ :: _,_ :: _,i + 1,h=>⟨h.1,NodesAt.take i h.2⟩
  | [],_ :: _,_,h=>h.elim
  | _ :: _,[],_,h=>h.elim
theorem NodesAt.drop {H:Hp}:∀ {xs:List V} {ns:List Nd} (i:Nat),NodesAt H xs ns → NodesAt H (xs.drop i) (ns.drop i)
  | [],[],_,_=>by simp [NodesAt]
  | _ :: _,_ :: _,0,h=>h
  | _ :: _,_ :: _,i + 1,h=>NodesAt.drop i h.2
  | [],_ :: _,_,h=>h.elim
  | _ :: _,[],_,h=>h.elim
def deep1 (n:Nd):Int:=min (n.2 + 1) 12
def depthOk:Int → List Nd → Prop
  | _,[]=>True
  | d,n :: r=>markS n.1 = true ∧ 0 ≤ n.2 ∧ n.2 ≤ d ∧ depthOk (deep1 n) r
def deepAfter:Int → List Nd → Int
  | d,[]=>d
  | _,n :: r=>deepAfter (deep1 n) r
theorem depthOk_append:∀ {d:Int} {a b:List Nd},depthOk d (a ++ b) ↔ depthOk d a ∧ depthOk (deepAfter d a) b
  | d,[],b=>by simp [depthOk,deepAfter]
  | d,n :: r,b=>by
    have ih:=depthOk_append (d:=deep1 n) (a:=r) (b:=b)
    simp only [List.cons_append,depthOk,deepAfter,ih]
    constructor
    · rintro ⟨h1,h2,h3,h4,h5⟩; exact ⟨⟨h1,h2,h3,h4⟩,h5⟩
    · rintro ⟨⟨h1,h2,h3,h4⟩,h5⟩; exact ⟨h1,h2,h3,h4,h5⟩
theorem deepAfter_append:∀ {d:Int} {a b:List Nd},deepAfter d (a ++ b) = deepAfter (deepAfter d a) b
  | _,[],_=>rfl
  | _,n :: r,b=>deepAfter_append (d:=deep1 n) (a:=r) (b:=b)
theorem depthOk_all {d:Int} {ns:List Nd}:depthOk d ns → ∀ n ∈ ns,markS n.1 = true ∧ 0 ≤ n.2:=by
  induction ns generalizing d with
  | nil=>intro _ n h; exact nomatch h
  | cons m r ih =>
    rintro ⟨h1,h2,_,h4⟩ n hn
    rcases List.mem_cons.mp hn with e | e
    · rw [e]; exact ⟨h1,h2⟩
    · exact ih h4 n e
def Thg3 (H:Hp) (v:V):Prop:=Thg H v ∧ ∀ a xs,v = .ref a → H a = some (.tup xs) → ∀ x ∈ xs,Thg H x
def Thg4 (H:Hp) (v:V):Prop:=Thg H v ∧ ∀ a xs,v = .ref a → H a = some (.lst xs) → ∀ x ∈ xs,Thg3 H x
def GoodN (H:Hp) (v:V):Prop:=∃ a xs ns,v = .ref a ∧ H a = some (.lst xs) ∧ xs.length ≤ 40 ∧ NodesAt H xs ns ∧ depthOk 0 ns
theorem Thg.backT {H H':Hp} {v:V} {a:Addr} {xs:List V} (t:Thg H v) (s:Same H H') (e:v = .ref a) (h:H' a = some (.tup xs)):H a = some (.tup xs):=by
  cases t with
  | non=>cases e
  | bl b=>cases e
  | int i=>cases e
  | str x h=>cases e
  | lst h1=>cases e; rw [s _ _ h1] at h; cases h
  | tup h1=>cases e; rw [s _ _ h1] at h; cases h; exact h1
theorem Thg3.same {H H':Hp} {v:V} (s:Same H H') (t:Thg3 H v):Thg3 H' v:=⟨t.1.same s,fun a xs e h x hx=>(t.2 a xs e (t.1.backT s e h) x hx).same s⟩
theorem Thg4.same {H H':Hp} {v:V} (s:Same H H') (t:Thg4 H v):Thg4 H' v:=⟨t.1.same s,fun a xs e h x hx=>(t.2 a xs e (t.1.back s e h) x hx).same s⟩
theorem NodeAt.back {H H':Hp} {v:V} {n:Nd} (t:Thg H v) (s:Same H H') (h:NodeAt H' v n):NodeAt H v n:=by
  obtain ⟨a,e,h⟩:=h
  exact ⟨a,e,t.backT s e h⟩
theorem NodesAt.back {H H':Hp} (s:Same H H'):∀ {xs:List V} {ns:List Nd},(∀ x ∈ xs,Thg H x) → NodesAt H' xs ns → NodesAt H xs ns
  | [],[],_,h=>h
  | x :: xs,_ :: _,t,h=>⟨h.1.back (t x List.mem_cons_self) s,NodesAt.back s (fun y hy=>t y (List.mem_cons_of_mem _ hy)) h.2⟩
  | [],_ :: _,_,h=>h.elim
  | _ :: _,[],_,h=>h.elim
theorem GoodN.back {H H':Hp} {v:V} (t:Thg4 H v) (s:Same H H') (g:GoodN H' v):GoodN H v:=by
  obtain ⟨a,xs,ns,e,h,l,m,d⟩:=g
  have h0:=t.1.back s e h
  exact ⟨a,xs,ns,e,h0,l,m.back s fun x hx=>(t.2 a xs e h0 x hx).1,d⟩
theorem Thg.isTup {K:PySem.W.Frag} {H:Hp} {v:V} (t:Thg H v):∃ y b,TyOf K H v y ∧ PySem.W.kitOne K y (.type "tuple") = some b ∧ ((b = true ∧ ∃ a xs,v = .ref a ∧ H a = some (.tup xs)) ∨ (b = false ∧ ∀ a xs,v = .ref a → H a ≠ some (.tup xs))):=by
  cases t with
  | non=>exact ⟨_,false,.non,by kernel_rfl,.inr ⟨rfl,fun _ _ z=>nomatch z⟩⟩
  | bl b=>exact ⟨_,false,.bl b,by kernel_rfl,.inr ⟨rfl,fun _ _ z=>nomatch z⟩⟩
  | int i=>exact ⟨_,false,.int i,by kernel_rfl,.inr ⟨rfl,fun _ _ z=>nomatch z⟩⟩
  | str x h=>exact ⟨_,false,.str x,by kernel_rfl,.inr ⟨rfl,fun _ _ z=>nomatch z⟩⟩
  | lst h=>exact ⟨_,false,.lst h,by kernel_rfl,.inr ⟨rfl,fun _ _ z e=>by cases z; rw [h] at e; cases e⟩⟩
  | tup h=>exact ⟨_,true,.tup h,by kernel_rfl,.inl ⟨rfl,_,_,rfl,h⟩⟩
theorem notN_mid {H:Hp} {a:Addr} {A R:List V} {b:V} {ns:List Nd} (h:H a = some (.lst (A ++ b :: R))) (hA:NodesAt H A ns) (hb:∀ n,NodeAt H b n → ¬ (markS n.1 = true ∧ 0 ≤ n.2 ∧ n.2 ≤ deepAfter 0 ns)):¬ GoodN H (.ref a):=by
  rintro ⟨a',xs',ms,e,h',l,m,d⟩
  cases e
  rw [h] at h'
  cases h'
  obtain ⟨n1,n2,rfl,m1,m2⟩:=m.split
  cases n2 with
  | nil=>exact m2.elim
  | cons n r =>
    have:=m1.uniq hA
    subst this
    have d2:=(depthOk_append.mp d).2
    exact hb n m2.1 ⟨d2.1,d2.2.1,d2.2.2.1⟩
theorem thg3_tup {H:Hp} {a:Addr} {xs:List V} (h:H a = some (.tup xs)) (hx:∀ x ∈ xs,Thg H x):Thg3 H (.ref a):=⟨.tup h,fun a' xs' e h' x m=>by cases e; rw [h] at h'; cases h'; exact hx x m⟩
theorem thg4_lst {H:Hp} {a:Addr} {xs:List V} (h:H a = some (.lst xs)) (hx:∀ x ∈ xs,Thg3 H x):Thg4 H (.ref a):=⟨.lst h,fun a' xs' e h' x m=>by cases e; rw [h] at h'; cases h'; exact hx x m⟩
theorem NodeAt.thg3 {H:Hp} {x:V} {n:Nd} (h:NodeAt H x n) (hm:n.1.length ≤ 1000):Thg3 H x:=by
  obtain ⟨t,e,h⟩:=h
  subst e
  refine thg3_tup h fun y hy=>?_
  simp only [List.mem_cons,List.not_mem_nil,or_false] at hy
  rcases hy with rfl | rfl
  · exact .str _ hm
  · exact .int _
theorem NodesAt.thg3 {H:Hp}:∀ {xs:List V} {ns:List Nd},NodesAt H xs ns → (∀ n ∈ ns,n.1.length ≤ 1000) → ∀ x ∈ xs,Thg3 H x
  | [],[],_,_,_,hx=>nomatch hx
  | y :: xs,n :: ns,h,hm,x,hx=>by
    rcases List.mem_cons.mp hx with e | e
    · rw [e]; exact h.1.thg3 (hm n List.mem_cons_self)
    · exact NodesAt.thg3 h.2 (fun m hm'=>hm m (List.mem_cons_of_mem _ hm')) x e
  | [],_ :: _,h,_,_,_=>h.elim
  | _ :: _,[],h,_,_,_=>h.elim
def datN (ns:List Nd):List PyData:=ns.map fun n=>.tuple [.str n.1,.int n.2]
theorem NodesAt.dat {K:PySem.W.Frag} {H:Hp}:∀ {xs:List V} {ns:List Nd},NodesAt H xs ns → DatVs K H xs (datN ns)
  | [],[],_=>.nil
  | _ :: _,_ :: _,h=>by
    obtain ⟨⟨t,e,h1⟩,h2⟩:=h
    subst e
    exact .cons (.tup (SqT.of h1) (.cons (.str _) (.cons (.int _) .nil))) (NodesAt.dat h2)
  | [],_ :: _,h=>h.elim
  | _ :: _,[],h=>h.elim
theorem canLay_nodes:∀ {ns:List Nd},(∀ n ∈ ns,PyData.strOk n.1 = true) → PyData.canLayAll0 (datN ns) = true
  | [],_=>rfl
  | n :: r,h=>by
    have h1:=h n List.mem_cons_self
    have h2:=canLay_nodes (ns:=r) fun y hy=>h y (List.mem_cons_of_mem _ hy)
    unfold datN at h2 ⊢
    simp only [List.map_cons,PyData.canLayAll0,PyData.canLay0,h1,h2,Bool.and_self]
theorem depth_nodes:∀ ns:List Nd,PyData.depthAll (datN ns) ≤ 1
  | []=>Nat.zero_le _
  | n :: r=>by
    have h2:=depth_nodes r
    unfold datN at h2 ⊢
    simp only [List.map_cons,PyData.depthAll,PyData.depth]
    omega
end SH
namespace L2
open PySem PySem.Spec PyProof.Rows
theorem tseq_open {a b:TS} {D:Ends} {σ:St} {H:Hp} (h:∀ B:TS,B = b → tSeq a B D σ H):tSeq a b D σ H:=h b rfl
def Itr3 (lo st:Int) (n:Nat):It:=⟨fun i _=>i < n,fun i H x H'=>H' = H ∧ x = .int (lo + i * st),fun i _=>n ≤ i⟩
theorem turn_range3 {P:Program} {w:World} {K:PySem.W.Frag} {tg:Expr} (it:Addr) (lo c:Int) (n:Nat):Turn P w K tg (Itr3 lo c n) [it] it (fun i h=>IsRangeIter h it (lo + (i:Nat) * c) ((n:Int) - (i:Nat)) c) where
  mem:=by simp
  obj:=fun i h st b hb=>by
    have e:b = it:=by simpa using hb
    subst e
    exact ⟨_,st,fun v z=>by
      have z':Data.fields _ = Data.cell v:=z
      cases z'⟩
  keep:=fun i h h' st k=>k it (by simp) _ st
  item:=by
    intro X hP hw hK hc i pins s σ H E I hf st hg
    subst hP hw hK
    obtain ⟨f0,f1,f2,f3,f4,f5⟩:=hf it (by simp)
    have W:=Walks.range (prog:=X.prog) (w:=X.w) (I.ok.hd hc) it lo c n
    refine W.item i s _ _ hg st fun v h' tk hv st' kk=>?_
    obtain ⟨t,rfl⟩:=hv
    have I1:Inv X pins σ H { s with heap:=h',toks:=tk }:=I.turned (fun b o hb e=>kk b o (by simpa using hb) e) f0 f1 f3 f4 f5
    exact ⟨_,rfl,go_of (s:={ s with heap:=h',toks:=tk }) (n:="range_iterator") st' rfl rfl (by decide) ⟨.int (lo + i * c),H,I1,⟨t,rfl⟩,⟨rfl,rfl⟩,st',fun b hb=>(hf b hb).1⟩⟩
  done:=by
    intro X hP hw hK hc i pins s σ H E I hf st hg
    subst hP hw hK
    obtain ⟨f0,f1,f2,f3,f4,f5⟩:=hf it (by simp)
    exact wpAny_pyNext_range_end (I.ok.hd hc) st (by have:n ≤ i:=hg; omega) fun h' eb=>⟨rfl,I.turned (t':=s.toks) (fun b o hb e=>eb b o hb e) f0 f1 f3 f4 f5⟩
  self:=fun _ _ _ _ _ st h=>wpAny_pyIter_rangeiter st h
theorem rsize3 {j c:Int} (hc:1 ≤ c):0 ≤ Builtin.Range.rangeSize 0 j c ∧ (Builtin.Range.rangeSize 0 j c ≤ j ∨ Builtin.Range.rangeSize 0 j c = 0) ∧ ∀ i:Nat,(i:Int) < Builtin.Range.rangeSize 0 j c → (i:Int) * c < j:=by
  by_cases hj:0 < j
  · refine ⟨?_,.inl ?_,fun i hi=>(start_inside hc (by omega) (by omega) hi).2⟩
    · rw [rangeSize_pos hc (by omega)]; exact Int.ediv_nonneg (by omega) (by omega)
    · rw [rangeSize_pos hc (by omega)]
      refine Int.ediv_le_of_le_mul (by omega) ?_
      have h:0 ≤ (j - 1) * (c - 1):=Int.mul_nonneg (by omega) (by omega)
      have e:(j - 1) * (c - 1) = j * c - j - c + 1:=by
        rw [Int.sub_mul,Int.mul_sub,Int.mul_sub]; omega
      omega
  · have e:Builtin.Range.rangeSize 0 j c = 0:=by
      unfold Builtin.Range.rangeSize
      rw [if_pos (by omega),if_neg (by omega)]
    rw [e]
    exact ⟨Int.le_refl _,.inr rfl,fun i hi=>absurd hi (by omega)⟩
theorem small3 {j c:Int} (h1:-1000 ≤ j) (h2:j ≤ 1000) (hc:1 ≤ c) (hc2:c ≤ 1000):Builtin.Range.small 0 j c = true:=by
  obtain ⟨h3,h4,_⟩:=rsize3 (j:=j) hc
  have h5:Builtin.Range.rangeSize 0 j c ≤ 1000:=by omega
  unfold Builtin.Range.small
  generalize Builtin.Range.rangeSize 0 j c = n at h3 h5
  have h6:n * c ≤ 1000 * 1000:=Int.mul_le_mul h5 hc2 (by omega) (by omega)
  have h7:0 ≤ n * c:=Int.mul_nonneg h3 (by omega)
  simp only [Builtin.Range.rangeFitsLong,Bool.and_eq_true,Bool.or_eq_true,decide_eq_true_eq,beq_iff_eq,show c > 0 from by omega,if_true]
  omega
section
variable {X:Cx} {tg:Expr}
def iRng3 (ta:TA):TI:=fun σ H R=>ta σ H fun vs H1=>∃ j c:Int,vs = [.int 0,.int j,.int c] ∧ (-1000 ≤ j ∧ j ≤ 1000 ∧ 1 ≤ c ∧ c ≤ 1000) ∧ ∀ n:Nat,(∀ i:Nat,i < n → (i:Int) * c < j) → R (Itr3 0 c n) H1
theorem pi_range3 {a b d:Expr} {ta:TA} {p pos:Pos} (hg:Gl X "range") (hm:X.mg "range" = none) (ha:PA X [a,b,d] ta) (hs:starEach [a,b,d] X.env = [(false,eval a X.env),(false,eval b X.env),(false,eval d X.env)]:=by rfl) (hs2:starEach [b,d] X.env = [(false,eval b X.env),(false,eval d X.env)]:=by rfl) (hs3:starEach [d] X.env = [(false,eval d X.env)]:=by rfl) :
    PI X tg (.Call (.Name "range" p) [a,b,d] [] pos) (iRng3 ta):=by
  intro pins s σ H R I h
  refine Call_ (ld_blt I hg hm boot_range (PyProof.Rows.callWith_type1 (thn (ha pos pins s σ H _ I h) fun us s1 ⟨vs,H1,I1,r1,q1⟩=>?_) (by rw [hs,hs2]) (by rw [hs2]; rfl)))
  obtain ⟨j,c,e,⟨q1,q2,q3,q4⟩,q⟩:=q1
  subst e
  cases r1 with
  | cons r rr =>
    cases rr with
    | cons r' rr =>
      cases rr with
      | cons r'' rr =>
        cases rr
        obtain ⟨t,rfl⟩:=r
        obtain ⟨t',rfl⟩:=r'
        obtain ⟨t'',rfl⟩:=r''
        obtain ⟨h3,h4,h5⟩:=rsize3 (j:=j) q3
        have I1':=I1.kept (t':=s1.toks) (fun b o e=>Heap.get?_push_of_some { cls:=.type "range",data:=.fields #[.int 0 t,.int j t',.int c t''] } e)
        refine call_range_3 (by omega) ?_ (.inl (PyProof.noPylong_small (by omega)))
        refine wpAny_pyIter_range (IsRange.new ..) (small3 q1 q2 q3 q4) ?_
        refine ⟨_,[_],_,_,H1,rfl,I1'.kept (t':=s1.toks) fun b o e=>Heap.get?_push_of_some _ e,turn_range3 _ 0 c (Builtin.Range.rangeSize 0 j c).toNat,?_,fun b hb=>?_,q _ fun i hi=>h5 i (by omega)⟩
        · have e1:(0:Int) + ((0:Nat):Int) * c = 0:=by simp
          have e2:(((Builtin.Range.rangeSize 0 j c).toNat:Nat):Int) - ((0:Nat):Int) = Builtin.Range.rangeSize 0 j c:=by omega
          show IsRangeIter _ _ ((0:Int) + ((0:Nat):Int) * c) ((((Builtin.Range.rangeSize 0 j c).toNat:Nat):Int) - ((0:Nat):Int)) c
          rw [e1,e2]
          exact Heap.get?_push_size _ rfl
        · have e:=List.mem_singleton.mp hb
          subst e
          exact I1'.fpOk (Nat.le_refl _) (I1'.hok.fresh (Nat.le_refl _))
end
theorem for_range3 {lo c:Int} {n:Nat} {g:TG} {tb:TS} {D:Ends} {σ:St} {H:Hp} (Pv:Nat → St → Hp → Prop) (h0:Pv 0 σ H)
    (hs:∀ i σ H,i < n → Pv i σ H → g (.int (lo + i * c)) σ H fun σ2 H2=>tb { D with nx:=Pv (i + 1),ct:=Pv (i + 1),bk:=D.nx } σ2 H2) (hd:∀ σ H,Pv n σ H → D.nx σ H) :
    ∃ W:Nat → Nat → St → Hp → Prop,(∃ m,W 0 m σ H) ∧ ∀ i m σ H,W i m σ H →
      ((Itr3 lo c n).stop i H ∧ D.nx σ H) ∨ ((Itr3 lo c n).go i H ∧ ∃ N:St → Hp → Prop,(∀ σ' H',N σ' H' → ∃ m',m' < m ∧ W (i + 1) m' σ' H') ∧ ∀ x H',(Itr3 lo c n).yld i H x H' → g x σ H' fun σ2 H2=>tb { D with nx:=N,ct:=N,bk:=D.nx } σ2 H2):=by
  refine ⟨fun i m σ H=>m = n - i ∧ i ≤ n ∧ Pv i σ H,⟨n,by simp,Nat.zero_le _,h0⟩,?_⟩
  rintro i m σ H ⟨rfl,hi,p⟩
  by_cases hlt:i < n
  · refine .inr ⟨hlt,Pv (i + 1),fun σ' H' p'=>⟨n - (i + 1),by omega,rfl,hlt,p'⟩,fun x H' y=>?_⟩
    obtain ⟨e,y⟩:=y
    subst e y
    exact hs i σ _ hlt p
  · have e:i = n:=by omega
    subst e
    exact .inl ⟨Nat.le_refl _,hd σ H p⟩
theorem tcomp_listN {K:PySem.W.Frag} {xs:List V} {x0:Str} {ix:List Nat} {wi:TI} {ti:TT} {te:TE} {Q:VK} {σ:St} {H:Hp} (Cond:Addr → Hp → Prop) (hi:∀ R:It → Hp → Prop,(∀ a H1,Cond a H1 → R (Itl K a) H1) → wi σ H R)
    (h:∀ a H1,Cond a H1 → ∃ Pv:Nat → List V → Hp → Prop,Pv 0 [] H1 ∧ (∀ i ys H,i ≤ xs.length → Pv i ys H → SqL K H a xs) ∧
      (∀ i x ys H (R:List V → Hp → Prop),xs[i]? = some x → Pv i ys H → (∀ ys' H',Pv (i + 1) ys' H' → R ys' H') → ti (some x :: ix.map fun j=>(σ[j]?).join) H fun b H3=>if b = true then te (some x :: ix.map fun j=>(σ[j]?).join) H3 fun y H4=>ys.length < sizeLine ∧ R (ys ++ [y]) H4 else R ys H3) ∧
      (∀ ys H,Pv xs.length ys H → ys.length ≤ sizeLine ∧ ∀ D,H D = none → Q (.ref D) (upd H D (.lst ys)))):tComp [x0] ix wi (gName 0) ti te σ H Q :=
  hi _ fun a H1 c=>by
    obtain ⟨Pv,h0,hl,hs,hd⟩:=h a H1 c
    exact comp_list Pv h0 hl hs hd
end L2
namespace SH
open PySem L2
def RowAt (f:List V → HO) (H:Hp) (x:V) (l:List V):Prop:=∃ a,x = .ref a ∧ H a = some (f l)
def RowsAt (f:List V → HO) (H:Hp):List V → List (List V) → Prop
  | [],[]=>True
  | x :: xs,n :: ns=>RowAt f H x n ∧ RowsAt f H xs ns
  | [],_ :: _=>False
  | _ :: _,[]=>False
section
variable {f:List V → HO} {H H':Hp}
theorem RowAt.same {x:V} {n:List V} (s:Same H H') (h:RowAt f H x n):RowAt f H' x n:=by
  obtain ⟨t,e,h⟩:=h
  exact ⟨t,e,s _ _ h⟩
theorem RowsAt.keep (s:∀ b ys,H b = some (f ys) → H' b = some (f ys)):∀ {xs:List V} {ns:List (List V)},RowsAt f H xs ns → RowsAt f H' xs ns
  | [],[],h=>h
  | _ :: _,_ :: _,h=>by
    obtain ⟨⟨t,e,h1⟩,h2⟩:=h
    exact ⟨⟨t,e,s _ _ h1⟩,RowsAt.keep s h2⟩
  | [],_ :: _,h=>h.elim
  | _ :: _,[],h=>h.elim
theorem RowsAt.same (s:Same H H') {xs:List V} {ns:List (List V)} (h:RowsAt f H xs ns):RowsAt f H' xs ns:=h.keep fun b ys e=>s b _ e
theorem RowsAt.length:∀ {xs:List V} {ns:List (List V)},RowsAt f H xs ns → xs.length = ns.length
  | [],[],_=>rfl
  | _ :: _,_ :: _,h=>by rw [List.length_cons,List.length_cons,RowsAt.length h.2]
  | [],_ :: _,h=>h.elim
  | _ :: _,[],h=>h.elim
theorem RowsAt.append:∀ {xs ys:List V} {ns ms:List (List V)},RowsAt f H xs ns → RowsAt f H ys ms → RowsAt f H (xs ++ ys) (ns ++ ms)
  | [],_,[],_,_,b=>b
  | _ :: _,_,_ :: _,_,a,b=>⟨a.1,RowsAt.append a.2 b⟩
  | [],_,_ :: _,_,a,_=>a.elim
  | _ :: _,_,[],_,a,_=>a.elim
theorem RowsAt.get:∀ {xs:List V} {ns:List (List V)} {i:Nat} {x:V},RowsAt f H xs ns → xs[i]? = some x → ∃ n,ns[i]? = some n ∧ RowAt f H x n
  | [],[],_,_,_,e=>by simp at e
  | _ :: _,n :: _,0,_,h,e=>by simp at e; subst e; exact ⟨n,rfl,h.1⟩
  | _ :: _,_ :: _,i + 1,x,h,e=>by
    obtain ⟨m,a,b⟩:=RowsAt.get (i:=i) (x:=x) h.2 (by simpa using e)
    exact ⟨m,by simpa using a,b⟩
  | [],_ :: _,_,_,h,_=>h.elim
  | _ :: _,[],_,_,h,_=>h.elim
theorem RowsAt.take:∀ {xs:List V} {ns:List (List V)} (i:Nat),RowsAt f H xs ns → RowsAt f H (xs.take i) (ns.take i)
  | [],[],_,_=>by simp [RowsAt]
  | _ :: _,_ :: _,0,_=>trivial
  | _ :: _,_ :: _,i + 1,h=>⟨h.1,RowsAt.take i h.2⟩
  | [],_ :: _,_,h=>h.elim
  | _ :: _,[],_,h=>h.elim
theorem RowsAt.drop:∀ {xs:List V} {ns:List (List V)} (i:Nat),RowsAt f H xs ns → RowsAt f H (xs.drop i) (ns.drop i)
  | [],[],_,_=>by simp [RowsAt]
  | _ :: _,_ :: _,0,h=>h
  | _ :: _,_ :: _,i + 1,h=>RowsAt.drop i h.2
  | [],_ :: _,_,h=>h.elim
  | _ :: _,[],_,h=>h.elim
theorem RowsAt.mem:∀ {xs:List V} {ns:List (List V)} {x:V},RowsAt f H xs ns → x ∈ xs → ∃ n ∈ ns,RowAt f H x n
  | [],_,_,_,h=>nomatch h
  | y :: xs,n :: ns,x,h,hx=>by
    rcases List.mem_cons.mp hx with e | e
    · rw [e]; exact ⟨n,List.mem_cons_self,h.1⟩
    · obtain ⟨m,hm,r⟩:=RowsAt.mem h.2 e
      exact ⟨m,List.mem_cons_of_mem _ hm,r⟩
  | _ :: _,[],_,h,_=>h.elim
end
theorem RowAt.uniq {H:Hp} {x:V} {n m:List V} (a:RowAt .lst H x n) (b:RowAt .lst H x m):n = m:=by
  obtain ⟨t,e,h⟩:=a
  obtain ⟨t',e',h'⟩:=b
  rw [e] at e'
  cases e'
  rw [h] at h'
  cases h'
  rfl
theorem RowsAt.uniq {H:Hp}:∀ {xs:List V} {ns ms:List (List V)},RowsAt .lst H xs ns → RowsAt .lst H xs ms → ns = ms
  | [],[],[],_,_=>rfl
  | _ :: _,_ :: _,_ :: _,a,b=>by rw [a.1.uniq b.1,RowsAt.uniq a.2 b.2]
  | [],_ :: _,_,a,_=>a.elim
  | [],_,_ :: _,_,b=>b.elim
  | _ :: _,[],_,a,_=>a.elim
  | _ :: _,_,[],_,b=>b.elim
def lineOk (w:Nat) (l:List V):Prop:=l.length = w ∧ l.all markV = true
def tabOk (ls:List (List V)):Prop:=∃ w,w ≤ 12 ∧ ∀ l ∈ ls,lineOk w l
def Thg5 (H:Hp) (v:V):Prop:=Thg H v ∧ ∀ a xs,v = .ref a → H a = some (.lst xs) → ∀ x ∈ xs,Thg2 H x
def GoodT (H:Hp) (v:V):Prop:=∃ a xs ls,v = .ref a ∧ H a = some (.lst xs) ∧ xs.length ≤ 12 ∧ RowsAt .lst H xs ls ∧ tabOk ls
theorem Thg5.same {H H':Hp} {v:V} (s:Same H H') (t:Thg5 H v):Thg5 H' v:=⟨t.1.same s,fun a xs e h x hx=>(t.2 a xs e (t.1.back s e h) x hx).same s⟩
theorem RowsAt.back {H H':Hp} (s:Same H H'):∀ {xs:List V} {ns:List (List V)},(∀ x ∈ xs,Thg H x) → RowsAt .lst H' xs ns → RowsAt .lst H xs ns
  | [],[],_,h=>h
  | x :: xs,_ :: _,t,h=>by
    obtain ⟨⟨a,e,h1⟩,h2⟩:=h
    exact ⟨⟨a,e,(t x List.mem_cons_self).back s e h1⟩,RowsAt.back s (fun y hy=>t y (List.mem_cons_of_mem _ hy)) h2⟩
  | [],_ :: _,_,h=>h.elim
  | _ :: _,[],_,h=>h.elim
theorem GoodT.back {H H':Hp} {v:V} (t:Thg5 H v) (s:Same H H') (g:GoodT H' v):GoodT H v:=by
  obtain ⟨a,xs,ns,e,h,l,m,d⟩:=g
  have h0:=t.1.back s e h
  exact ⟨a,xs,ns,e,h0,l,m.back s fun x hx=>(t.2 a xs e h0 x hx).1,d⟩
theorem notT_mem {H:Hp} {a:Addr} {xs:List V} {b:V} (h:H a = some (.lst xs)) (hm:b ∈ xs) (hb:¬ GoodM 12 H b):¬ GoodT H (.ref a):=by
  rintro ⟨a',xs',ns,e,h',l,r,w,hw,hall⟩
  cases e
  rw [h] at h'
  cases h'
  obtain ⟨n,hn,c,e,hc⟩:=r.mem hm
  obtain ⟨h1,h2⟩:=hall n hn
  exact hb ⟨c,n,e,hc,by omega,h2⟩
theorem notT_two {H:Hp} {a:Addr} {xs:List V} {b c:V} {l1 l2:List V} (h:H a = some (.lst xs)) (hm:b ∈ xs) (hm2:c ∈ xs) (h1:RowAt .lst H b l1) (h2:RowAt .lst H c l2) (hne:l1.length ≠ l2.length):¬ GoodT H (.ref a):=by
  rintro ⟨a',xs',ns,e,h',l,r,w,hw,hall⟩
  cases e
  rw [h] at h'
  cases h'
  obtain ⟨n,hn,r1⟩:=r.mem hm
  obtain ⟨m,hm',r2⟩:=r.mem hm2
  have e1:=r1.uniq h1
  have e2:=r2.uniq h2
  subst e1 e2
  exact hne ((hall _ hn).1.trans (hall _ hm').1.symm)
theorem thg5_lst {H:Hp} {a:Addr} {xs:List V} (h:H a = some (.lst xs)) (hx:∀ x ∈ xs,Thg2 H x):Thg5 H (.ref a):=⟨.lst h,fun a' xs' e h' x m=>by cases e; rw [h] at h'; cases h'; exact hx x m⟩
theorem thg_mark {H:Hp} {l:List V} (h:l.all markV = true):∀ x ∈ l,Thg H x:=fun x hx=>by
  have h1:=List.all_eq_true.mp h x hx
  cases x with
  | str z =>
    have:=(mark_all (show markS z = true from h1)).2.1
    exact .str _ (by omega)
  | _=>cases h1
theorem RowsAt.thg2 {H:Hp} {xs:List V} {ls:List (List V)} (r:RowsAt .lst H xs ls) (hm:∀ l ∈ ls,l.all markV = true):∀ x ∈ xs,Thg2 H x:=fun x hx=>by
  obtain ⟨n,hn,c,e,hc⟩:=r.mem hx
  subst e
  exact thg2_lst hc (thg_mark (hm n hn))
def datM:V → PyData
  | .str z=>.str z
  | _=>.none
theorem datVs_marks {K:PySem.W.Frag} {H:Hp}:∀ {l:List V},l.all markV = true → DatVs K H l (l.map datM)
  | [],_=>.nil
  | x :: r,h=>by
    rw [List.all_cons,Bool.and_eq_true] at h
    cases x with
    | str z=>exact .cons (.str _) (datVs_marks h.2)
    | _=>cases h.1
theorem canLay_marks:∀ {l:List V},l.all markV = true → PyData.canLayAll0 (l.map datM) = true
  | [],_=>rfl
  | x :: r,h=>by
    rw [List.all_cons,Bool.and_eq_true] at h
    have ih:=canLay_marks h.2
    cases x with
    | str z =>
      have h1:=mark_strOk (show markS z = true from h.1)
      simp only [List.map_cons,datM,PyData.canLayAll0,PyData.canLay0,h1,ih,Bool.and_self]
    | _=>cases h.1
theorem depth_marks:∀ l:List V,PyData.depthAll (l.map datM) ≤ 0
  | []=>Nat.le_refl _
  | x :: r=>by
    have ih:=depth_marks r
    cases x <;> simp only [List.map_cons,datM,PyData.depthAll,PyData.depth] <;> omega
theorem canLay_tups:∀ {ls:List (List V)},(∀ l ∈ ls,l.all markV = true) → PyData.canLayAll0 (ls.map fun l=>PyData.tuple (l.map datM)) = true
  | [],_=>rfl
  | n :: r,h=>by
    have h1:=canLay_marks (h n List.mem_cons_self)
    have h2:=canLay_tups (ls:=r) fun y hy=>h y (List.mem_cons_of_mem _ hy)
    simp only [List.map_cons,PyData.canLayAll0,PyData.canLay0,h1,h2,Bool.and_self]
theorem depth_tups:∀ ls:List (List V),PyData.depthAll (ls.map fun l=>PyData.tuple (l.map datM)) ≤ 1
  | []=>Nat.zero_le _
  | n :: r=>by
    have h2:=depth_tups r
    have h1:=depth_marks n
    simp only [List.map_cons,PyData.depthAll,PyData.depth]
    omega
theorem RowsAt.datT {K:PySem.W.Frag} {H:Hp}:∀ {xs:List V} {ls:List (List V)},(∀ l ∈ ls,l.all markV = true) → RowsAt .tup H xs ls → DatVs K H xs (ls.map fun l=>PyData.tuple (l.map datM))
  | [],[],_,_=>.nil
  | _ :: _,n :: _,hm,h=>by
    obtain ⟨⟨t,e,h1⟩,h2⟩:=h
    subst e
    exact .cons (.tup (SqT.of h1) (datVs_marks (hm n List.mem_cons_self))) (RowsAt.datT (fun y hy=>hm y (List.mem_cons_of_mem _ hy)) h2)
  | [],_ :: _,_,h=>h.elim
  | _ :: _,[],_,h=>h.elim
def wideT (ls:List (List V)):Nat:=(ls.headD []).length
theorem wideT_le {ls:List (List V)} (h:tabOk ls):wideT ls ≤ 12:=by
  obtain ⟨w,hw,ha⟩:=h
  cases ls with
  | nil=>exact Nat.zero_le _
  | cons l r=>show l.length ≤ 12; rw [(ha l List.mem_cons_self).1]; exact hw
theorem wideT_all {ls:List (List V)} (h:tabOk ls):∀ l ∈ ls,lineOk (wideT ls) l:=fun l hl=>by
  obtain ⟨w,hw,ha⟩:=h
  cases ls with
  | nil=>exact nomatch hl
  | cons l0 r =>
    have e:wideT (l0 :: r) = w:=(ha l0 List.mem_cons_self).1
    rw [e]
    exact ha l hl
theorem tab_marks {ls:List (List V)} (h:tabOk ls):∀ l ∈ ls,l.all markV = true:=fun l hl=>(wideT_all h l hl).2
theorem flat_marks {ls:List (List V)} (h:∀ l ∈ ls,l.all markV = true):ls.flatten.all markV = true:=by
  rw [List.all_eq_true]
  intro x hx
  obtain ⟨l,hl,hx'⟩:=List.mem_flatten.mp hx
  exact List.all_eq_true.mp (h l hl) x hx'
theorem flat_len {ls:List (List V)} (h:∀ l ∈ ls,l.length ≤ 12):ls.flatten.length ≤ 12 * ls.length:=by
  induction ls with
  | nil=>exact Nat.le_refl _
  | cons l r ih =>
    have h1:=h l List.mem_cons_self
    have h2:=ih fun y hy=>h y (List.mem_cons_of_mem _ hy)
    rw [List.flatten_cons,List.length_append,List.length_cons]
    omega
theorem putF3 {a b c:Str} {x y z:V} (h:¬ a = c) (h':¬ b = c):putF c z [(a,x),(b,y)] = [(a,x),(b,y),(c,z)]:=by
  show (if a = c then [(a,z),(b,y)] else (a,x) :: (if b = c then [(b,z)] else (b,y) :: putF c z [])) = _
  rw [if_neg h,if_neg h']
  rfl
theorem lookup_no3 {α:Type} {a b d c:Str} {x y z:α} (h:(c == a) = false) (h':(c == b) = false) (h'':(c == d) = false):List.lookup c [(a,x),(b,y),(d,z)] = none:=by
  rw [List.lookup_cons,h,List.lookup_cons,h',List.lookup_cons,h'']
  rfl
theorem lookup3b {α:Type} {a b c:Str} {x y z:α} (h:(b == a) = false):List.lookup b [(a,x),(b,y),(c,z)] = some y:=by
  rw [List.lookup_cons,h,List.lookup_cons,beq_self_eq_true]
theorem lookup3 {α:Type} {a b c:Str} {x y z:α} (h:(c == a) = false) (h':(c == b) = false):List.lookup c [(a,x),(b,y),(c,z)] = some z:=by
  rw [List.lookup_cons,h,List.lookup_cons,h',List.lookup_cons,beq_self_eq_true]
theorem GoodM.same {n:Nat} {H H':Hp} {v:V} (s:Same H H') (g:GoodM n H v):GoodM n H' v:=by
  obtain ⟨a,xs,e,h,r⟩:=g
  exact ⟨a,xs,e,s _ _ h,r⟩
theorem RowsAt.keepm {f:List V → HO} {H H':Hp}:∀ {xs:List V} {ns:List (List V)},(∀ b ys,V.ref b ∈ xs → H b = some (f ys) → H' b = some (f ys)) → RowsAt f H xs ns → RowsAt f H' xs ns
  | [],[],_,h=>h
  | _ :: _,_ :: _,s,h=>by
    obtain ⟨⟨t,e,h1⟩,h2⟩:=h
    exact ⟨⟨t,e,s _ _ (by rw [e]; exact List.mem_cons_self) h1⟩,RowsAt.keepm (fun b ys hb=>s b ys (List.mem_cons_of_mem _ hb)) h2⟩
  | [],_ :: _,_,h=>h.elim
  | _ :: _,[],_,h=>h.elim
def NotIn (l:Addr) (xs:List V):Prop:=∀ b,V.ref b ∈ xs → b ≠ l
theorem NotIn.nil {l:Addr}:NotIn l []:=fun _ h=>nomatch h
theorem NotIn.add {l p:Addr} {xs:List V} (h:NotIn l xs) (hp:p ≠ l):NotIn l (xs ++ [.ref p]):=fun b hb=>by
  rcases List.mem_append.mp hb with h' | h'
  · exact h b h'
  · cases List.mem_singleton.mp h'
    exact hp
theorem RowsAt.updl {f:List V → HO} {H:Hp} {l:Addr} {o:HO} {xs:List V} {ns:List (List V)} (n:NotIn l xs) (h:RowsAt f H xs ns):RowsAt f (upd H l o) xs ns:=h.keepm fun b ys hb e=>by rw [upd_ne (n b hb)]; exact e
theorem cut_len {ms:List Int} {a w:Nat} (h:a + w ≤ ms.length):∃ cs:List Int,cutV (ms.map V.int) (some (a:Int)) (some ((a:Int) + (w:Int))) = cs.map V.int ∧ cs.length = w:=by
  have e2:((a:Int) + (w:Int)) = ((a + w:Nat):Int):=by omega
  refine ⟨(ms.drop (HT.sIx (ms.map V.int).length 0 (some (a:Int)))).take (HT.sIx (ms.map V.int).length (ms.map V.int).length (some ((a:Int) + (w:Int))) - HT.sIx (ms.map V.int).length 0 (some (a:Int))),?_,?_⟩
  · unfold cutV
    rw [List.map_take,List.map_drop]
  · rw [e2,HT.sIx_nat,HT.sIx_nat,List.length_take,List.length_drop,List.length_map]
    omega
theorem cut_some {ns:List Int} {lo hi:Option Int}:∃ ms:List Int,cutV (ns.map V.int) lo hi = ms.map V.int ∧ ms.length ≤ ns.length:=by
  refine ⟨(ns.drop (HT.sIx (ns.map V.int).length 0 lo)).take (HT.sIx (ns.map V.int).length (ns.map V.int).length hi - HT.sIx (ns.map V.int).length 0 lo),?_,?_⟩
  · unfold cutV
    rw [List.map_take,List.map_drop]
  · rw [List.length_take,List.length_drop]
    omega
theorem NotIn.of {f:List V → HO} {H:Hp} {D:Addr} {xs:List V} {ls:List (List V)} (r:RowsAt f H xs ls) (h:H D = none):NotIn D xs:=fun b hb=>by
  obtain ⟨n,_,a,e,ha⟩:=r.mem hb
  cases e
  exact ne_of_none ha h
theorem cut_to {xs:List V} {n:Nat} {i:Int} (h:i = (n:Int)):cutV xs none (some i) = xs.take n:=by
  subst h
  unfold cutV
  rw [HT.sIx_none,HT.sIx_nat,List.drop_zero,Nat.sub_zero]
  apply List.ext_getElem?
  intro j
  simp only [List.getElem?_take]
  by_cases h1:j < n
  · by_cases h2:j < xs.length
    · rw [if_pos (by omega),if_pos h1]
    · rw [if_neg (by omega),if_pos h1]
      exact (List.getElem?_eq_none (by omega)).symm
  · rw [if_neg (by omega),if_neg h1]
end SH
namespace L2
open PySem PySem.Spec PyProof.Rows
theorem pe_either {X:Cx} {e:Expr} {t1 t2:TE} (h1:PE X e t1) (h2:PE X e t2):PE X e (fun σ H Q=>t1 σ H Q ∨ t2 σ H Q):=fun pins s σ H Q I h=>h.elim (h1 pins s σ H Q I) (h2 pins s σ H Q I)
end L2
namespace SH
open PySem L2
def placesOk:Int → Int → List Int → Prop
  | _,_,[]=>True
  | lo,m,p :: r=>lo ≤ p ∧ p < m ∧ placesOk (p + 1) m r
def lowAfter:Int → List Int → Int
  | lo,[]=>lo
  | _,p :: r=>lowAfter (p + 1) r
theorem placesOk_append:∀ {lo m:Int} {a b:List Int},placesOk lo m (a ++ b) ↔ placesOk lo m a ∧ placesOk (lowAfter lo a) m b
  | lo,m,[],b=>by simp [placesOk,lowAfter]
  | lo,m,p :: r,b=>by
    have ih:=placesOk_append (lo:=p + 1) (m:=m) (a:=r) (b:=b)
    simp only [List.cons_append,placesOk,lowAfter,ih]
    constructor
    · rintro ⟨h1,h2,h3,h4⟩; exact ⟨⟨h1,h2,h3⟩,h4⟩
    · rintro ⟨⟨h1,h2,h3⟩,h4⟩; exact ⟨h1,h2,h3,h4⟩
theorem lowAfter_append:∀ {lo:Int} {a b:List Int},lowAfter lo (a ++ b) = lowAfter (lowAfter lo a) b
  | _,[],_=>rfl
  | _,p :: r,b=>lowAfter_append (lo:=p + 1) (a:=r) (b:=b)
theorem places_all:∀ {lo m:Int} {ps:List Int},placesOk lo m ps → ∀ p ∈ ps,lo ≤ p ∧ p < m
  | _,_,[],_,_,hp=>nomatch hp
  | lo,m,q :: r,h,p,hp=>by
    rcases List.mem_cons.mp hp with e | e
    · rw [e]; exact ⟨h.1,h.2.1⟩
    · have:=places_all h.2.2 p e
      have:=h.1
      omega
theorem places_len:∀ {lo m:Int} {ps:List Int},placesOk lo m ps → lo ≤ m → (ps.length:Int) ≤ m - lo
  | _,_,[],_,h=>by simp; omega
  | lo,m,p :: r,k,h=>by
    have ih:=places_len k.2.2 (by have:=k.2.1; omega)
    have:=k.1
    rw [List.length_cons]
    omega
def GoodP (m:Int) (H:Hp) (v:V):Prop:=∃ a ps,v = .ref a ∧ H a = some (.lst (ps.map V.int)) ∧ placesOk 0 m ps
theorem GoodP.back {m:Int} {H H':Hp} {v:V} (t:Thg H v) (s:Same H H') (g:GoodP m H' v):GoodP m H v:=by
  obtain ⟨a,ps,e,h,r⟩:=g
  exact ⟨a,ps,e,t.back s e h,r⟩
theorem map_int_inj:∀ {a b:List Int},a.map V.int = b.map V.int → a = b
  | [],[],_=>rfl
  | [],_ :: _,h=>by simp at h
  | _ :: _,[],h=>by simp at h
  | x :: a,y :: b,h=>by
    simp only [List.map_cons,List.cons.injEq,V.int.injEq] at h
    rw [h.1,map_int_inj h.2]
theorem notP_mid {m:Int} {H:Hp} {a:Addr} {ps:List Int} {x:V} {r:List V} (h:H a = some (.lst (ps.map V.int ++ x :: r))) (hb:∀ q,x = .int q → ¬ (lowAfter 0 ps ≤ q ∧ q < m)):¬ GoodP m H (.ref a):=by
  rintro ⟨a',qs,e,h',k⟩
  cases e
  rw [h] at h'
  have e:ps.map V.int ++ x :: r = qs.map V.int:=by injection h' with h2; injection h2
  have e2:qs = qs.take ps.length ++ qs.drop ps.length:=(List.take_append_drop _ _).symm
  have e3:(qs.take ps.length).map V.int = ps.map V.int:=by
    rw [List.map_take,← e,List.take_left' (by rw [List.length_map])]
  have e4:(qs.drop ps.length).map V.int = x :: r:=by
    rw [List.map_drop,← e,List.drop_left' (by rw [List.length_map])]
  have e5:=map_int_inj e3
  rw [e2,e5] at k
  cases hd:qs.drop ps.length with
  | nil=>rw [hd] at e4; cases e4
  | cons q w =>
    rw [hd] at e4 k
    simp only [List.map_cons,List.cons.injEq] at e4
    have k2:=(placesOk_append.mp k).2
    exact hb q e4.1.symm ⟨k2.1,k2.2.1⟩
theorem cut_from {xs:List V} {n:Nat} {i:Int} (h:i = (n:Int)):cutV xs (some i) none = xs.drop n:=by
  subst h
  unfold cutV
  rw [HT.sIx_none,HT.sIx_nat]
  apply List.ext_getElem?
  intro j
  rw [List.getElem?_take]
  by_cases h1:n ≤ xs.length
  · rw [Nat.min_eq_left h1]
    by_cases h2:j < xs.length - n
    · rw [if_pos h2]
    · rw [if_neg h2,List.getElem?_drop]
      exact (List.getElem?_eq_none (by omega)).symm
  · rw [Nat.min_eq_right (by omega),if_neg (by omega),List.getElem?_drop]
    exact (List.getElem?_eq_none (by omega)).symm
theorem thg2_ints {H:Hp} {a:Addr} {ps:List Int} (h:H a = some (.lst (ps.map V.int))):Thg2 H (.ref a):=thg2_lst h fun x hx=>by
  obtain ⟨q,_,rfl⟩:=List.mem_map.mp hx
  exact .int _
theorem places_take {lo m:Int} {ps:List Int} (i:Nat) (h:placesOk lo m ps):placesOk lo m (ps.take i):=(placesOk_append.mp (by rw [List.take_append_drop]; exact h:placesOk lo m (ps.take i ++ ps.drop i))).1
def colsOf (n:Nat) (ps:List Int):List Int:=(ps.filter fun i=>decide ((n:Int) ≤ i)).map fun i=>i - n
def linesOf (n:Nat) (ps:List Int):List Int:=ps.filter fun i=>decide (i < (n:Int))
def leftT (ls:List (List V)) (ps:List Int):List (List V):=(linesOf ls.length ps).map fun i=>(colsOf ls.length ps).map fun j=>(ls.getD i.toNat []).getD j.toNat .non
theorem linesOf_add {n:Nat} {ps:List Int} {p:Int}:linesOf n (ps ++ [p]) = linesOf n ps ++ (if p < (n:Int) then [p] else []):=by
  unfold linesOf
  rw [List.filter_append]
  congr 1
  by_cases h:p < (n:Int)
  · rw [if_pos h,List.filter_cons_of_pos (by simpa using h),List.filter_nil]
  · rw [if_neg h,List.filter_cons_of_neg (by simpa using h),List.filter_nil]
theorem colsOf_add {n:Nat} {ps:List Int} {p:Int}:colsOf n (ps ++ [p]) = colsOf n ps ++ (if (n:Int) ≤ p then [p - n] else []):=by
  unfold colsOf
  rw [List.filter_append,List.map_append]
  congr 1
  by_cases h:(n:Int) ≤ p
  · rw [if_pos h,List.filter_cons_of_pos (by simpa using h),List.filter_nil]; rfl
  · rw [if_neg h,List.filter_cons_of_neg (by simpa using h),List.filter_nil]; rfl
theorem linesOf_len {n:Nat}:∀ {lo m:Int} {ps:List Int},placesOk lo m ps → ((linesOf n ps).length:Int) ≤ max ((n:Int) - lo) 0
  | lo,m,[],_=>by simp [linesOf]; omega
  | lo,m,p :: r,k=>by
    have ih:=linesOf_len (n:=n) k.2.2
    have h1:=k.1
    unfold linesOf at ih ⊢
    by_cases h:p < (n:Int)
    · rw [List.filter_cons_of_pos (by simpa using h),List.length_cons]; omega
    · rw [List.filter_cons_of_neg (by simpa using h)]; omega
theorem colsOf_len {n:Nat}:∀ {lo m:Int} {ps:List Int},placesOk lo m ps → ((colsOf n ps).length:Int) ≤ max (m - max (n:Int) lo) 0
  | lo,m,[],_=>by simp [colsOf]; omega
  | lo,m,p :: r,k=>by
    have ih:=colsOf_len (n:=n) k.2.2
    have h1:=k.1
    have h2:=k.2.1
    unfold colsOf at ih ⊢
    rw [List.length_map] at ih ⊢
    by_cases h:(n:Int) ≤ p
    · rw [List.filter_cons_of_pos (by simpa using h),List.length_cons]; omega
    · rw [List.filter_cons_of_neg (by simpa using h)]; omega
theorem linesOf_all {n:Nat} {m:Int} {ps:List Int} (k:placesOk 0 m ps):∀ i ∈ linesOf n ps,0 ≤ i ∧ i < (n:Int):=fun i hi=>by
  obtain ⟨h1,h2⟩:=List.mem_filter.mp hi
  exact ⟨(places_all k i h1).1,by simpa using h2⟩
theorem colsOf_all {n w:Nat} {ps:List Int} (k:placesOk 0 ((n:Int) + (w:Int)) ps):∀ i ∈ colsOf n ps,0 ≤ i ∧ i < (w:Int):=fun i hi=>by
  obtain ⟨j,hj,rfl⟩:=List.mem_map.mp hi
  obtain ⟨h1,h2⟩:=List.mem_filter.mp hj
  have h3:(n:Int) ≤ j:=by simpa using h2
  have:=(places_all k j h1).2
  omega
theorem putF3c {a b c:Str} {x y z z':V} (h:¬ a = c) (h':¬ b = c):putF c z' [(a,x),(b,y),(c,z)] = [(a,x),(b,y),(c,z')]:=by
  show (if a = c then [(a,z'),(b,y),(c,z)] else (a,x) :: (if b = c then [(b,z'),(c,z)] else (b,y) :: (if c = c then [(c,z')] else (c,z) :: putF c z' []))) = _
  rw [if_neg h,if_neg h',if_pos rfl]
theorem part_len {n:Nat}:∀ (ps:List Int),(linesOf n ps).length + (colsOf n ps).length = ps.length
  | []=>rfl
  | p :: r=>by
    have ih:=part_len (n:=n) r
    unfold linesOf colsOf at ih ⊢
    rw [List.length_map] at ih ⊢
    by_cases h:p < (n:Int)
    · rw [List.filter_cons_of_pos (by simpa using h),List.filter_cons_of_neg (by simp; omega),List.length_cons,List.length_cons]; omega
    · rw [List.filter_cons_of_neg (by simpa using h),List.filter_cons_of_pos (by simp; omega),List.length_cons,List.length_cons]; omega
end SH
namespace L2
open PySem PySem.Spec PyProof.Rows
section
variable {κ:Type} [DecidableEq κ]
def valV (kvs:List (κ × V)) (k:κ):Option V:=(kvs.find? fun kv=>decide (kv.1 = k)).map (·.2)
def putK (kvs:List (κ × V)) (k:κ) (v:V):List (κ × V) :=
  if (kvs.any fun kv=>decide (kv.1 = k)) = true then kvs.map (fun kv=>if kv.1 = k then (kv.1,v) else kv) else kvs ++ [(k,v)]
def dropK (kvs:List (κ × V)) (k:κ):List (κ × V):=kvs.filter fun kv=>decide (kv.1 ≠ k)
theorem valV_pos {p:κ × V} {r:List (κ × V)} {k:κ} (e:p.1 = k):valV (p :: r) k = some p.2:=by simp [valV,List.find?_cons,e]
theorem valV_neg {p:κ × V} {r:List (κ × V)} {k:κ} (e:¬ p.1 = k):valV (p :: r) k = valV r k:=by simp [valV,List.find?_cons,e]
theorem valV_any (k:κ):∀ kvs:List (κ × V),(kvs.any fun kv=>decide (kv.1 = k)) = (valV kvs k).isSome
  | []=>rfl
  | p :: r=>by
    rw [List.any_cons]
    by_cases e:p.1 = k
    · simp only [valV_pos e,decide_eq_true e,Bool.true_or,Option.isSome_some]
    · rw [valV_neg e,decide_eq_false e,Bool.false_or]; exact valV_any k r
theorem valV_map (k j:κ) (y:V):∀ kvs:List (κ × V),valV (kvs.map fun kv=>if kv.1 = k then (kv.1,y) else kv) j = (valV kvs j).map fun x=>if j = k then y else x
  | []=>rfl
  | p :: r=>by
    have ih:=valV_map k j y r
    rw [List.map_cons]
    by_cases h:p.1 = k
    · rw [if_pos h]
      by_cases e:p.1 = j
      · rw [valV_pos (p:=(p.1,y)) e,valV_pos e,Option.map_some,if_pos (e.symm.trans h)]
      · rw [valV_neg (p:=(p.1,y)) e,valV_neg e,ih]
    · rw [if_neg h]
      by_cases e:p.1 = j
      · rw [valV_pos (p:=p) e,valV_pos e,Option.map_some,if_neg (fun z=>h (e.trans z))]
      · rw [valV_neg (p:=p) e,valV_neg e,ih]
theorem valV_snoc (k j:κ) (y:V):∀ kvs:List (κ × V),valV kvs k = none → valV (kvs ++ [(k,y)]) j = if j = k then some y else valV kvs j
  | [],_=>by
    by_cases e:k = j
    · rw [if_pos e.symm]; exact valV_pos (p:=(k,y)) e
    · rw [if_neg (fun z=>e z.symm)]; exact valV_neg (p:=(k,y)) e
  | p :: r,hn=>by
    rw [List.cons_append]
    have hk:¬ p.1 = k:=fun z=>by rw [valV_pos z] at hn; cases hn
    rw [valV_neg hk] at hn
    have ih:=valV_snoc k j y r hn
    by_cases e:p.1 = j
    · rw [valV_pos e,valV_pos e,if_neg (fun z=>hk (e.trans z))]
    · rw [valV_neg e,valV_neg e,ih]
theorem valV_put (kvs:List (κ × V)) (k j:κ) (y:V):valV (putK kvs k y) j = if j = k then some y else valV kvs j:=by
  unfold putK
  by_cases a:(kvs.any fun kv=>decide (kv.1 = k)) = true
  · rw [if_pos a,valV_map]
    rw [valV_any] at a
    by_cases e:j = k
    · obtain ⟨x,hx⟩:=Option.isSome_iff_exists.mp a
      rw [if_pos e,e,hx,Option.map_some,if_pos rfl]
    · rw [if_neg e]
      cases valV kvs j with
      | none=>rfl
      | some x=>rw [Option.map_some,if_neg e]
  · rw [if_neg a]
    refine valV_snoc k j y kvs ?_
    rw [valV_any] at a
    cases q:valV kvs k with
    | none=>rfl
    | some x=>rw [q] at a; exact (a rfl).elim
theorem length_putK (kvs:List (κ × V)) (k:κ) (v:V):(putK kvs k v).length ≤ kvs.length + 1:=by
  unfold putK
  split
  · rw [List.length_map]; omega
  · rw [List.length_append,List.length_cons,List.length_nil]; omega
theorem RelO.isSome_eq {o:Option V} {u:Option Value} (r:RelO o u):o.isSome = u.isSome:=by
  cases o with
  | none=>cases u with
    | none=>rfl
    | some _=>exact (show False from r).elim
  | some _=>cases u with
    | none=>exact (show False from r).elim
    | some _=>rfl
theorem RelO.getD {o:Option V} {u:Option Value} {d:V} {d':Value} (r:RelO o u) (rd:RelV d d'):RelV (o.getD d) (u.getD d'):=by
  cases o with
  | none=>cases u with
    | none=>exact rd
    | some _=>exact (show False from r).elim
  | some _=>cases u with
    | none=>exact (show False from r).elim
    | some _=>exact r
theorem KV.val {kvs:List (κ × V)} {vs:List (κ × Value)} (r:KV kvs vs) (k:κ):RelO (valV kvs k) (valueAt vs k):=by
  unfold KV at r
  induction r with
  | nil=>exact True.intro
  | @cons p q ps qs h t ih =>
    obtain ⟨h1,h2⟩:=h
    by_cases e:p.1 = k
    · have e':q.1 = k:=h1.symm.trans e
      have b:valueAt (q :: qs) k = some q.2:=by simp [valueAt,List.find?_cons,e']
      rw [valV_pos e,b]; exact h2
    · have e':¬ q.1 = k:=fun z=>e (h1.trans z)
      have b:valueAt (q :: qs) k = valueAt qs k:=by simp [valueAt,List.find?_cons,e']
      rw [valV_neg e,b]; exact ih
theorem KV.any {kvs:List (κ × V)} {vs:List (κ × Value)} (r:KV kvs vs) (k:κ):(kvs.any fun kv=>decide (kv.1 = k)) = vs.any fun kv=>decide (kv.1 = k):=by
  unfold KV at r
  induction r with
  | nil=>rfl
  | cons h t ih=>rw [List.any_cons,List.any_cons,ih,h.1]
theorem KV.repl {kvs:List (κ × V)} {vs:List (κ × Value)} (r:KV kvs vs) (k:κ) {y:V} {u:Value} (ry:RelV y u) :
    KV (kvs.map fun kv=>if kv.1 = k then (kv.1,y) else kv) (vs.map fun kv=>if kv.1 = k then (kv.1,u) else kv):=by
  unfold KV at r ⊢
  induction r with
  | nil=>exact .nil
  | @cons p q ps qs h t ih =>
    rw [List.map_cons,List.map_cons]
    refine .cons ?_ ih
    obtain ⟨h1,h2⟩:=h
    by_cases e:p.1 = k
    · rw [if_pos e,if_pos (h1.symm.trans e)]; exact ⟨h1,ry⟩
    · rw [if_neg e,if_neg (fun z=>e (h1.trans z))]; exact ⟨h1,h2⟩
theorem KV.put {kvs:List (κ × V)} {vs:List (κ × Value)} (r:KV kvs vs) (k:κ) {y:V} {u:Value} (ry:RelV y u):KV (putK kvs k y) (stored vs k u):=by
  unfold putK stored
  rw [r.any k]
  by_cases e:(vs.any fun kv=>decide (kv.1 = k)) = true
  · rw [if_pos e,if_pos e]; exact r.repl k ry
  · rw [if_neg e,if_neg e]; exact Paired.snoc r ⟨rfl,ry⟩
theorem KV.drop {kvs:List (κ × V)} {vs:List (κ × Value)} (r:KV kvs vs) (k:κ):KV (dropK kvs k) (without vs k):=by
  unfold KV at r ⊢
  unfold dropK without
  induction r with
  | nil=>exact .nil
  | @cons p q ps qs h t ih =>
    obtain ⟨h1,h2⟩:=h
    rw [List.filter_cons,List.filter_cons]
    by_cases e:p.1 = k
    · have a:¬ decide (p.1 ≠ k) = true:=by simp [e]
      have b:¬ decide (q.1 ≠ k) = true:=by simp [h1.symm.trans e]
      rw [if_neg a,if_neg b]; exact ih
    · have e':¬ q.1 = k:=fun z=>e (h1.trans z)
      have a:decide (p.1 ≠ k) = true:=by simp [e]
      have b:decide (q.1 ≠ k) = true:=by simp [e']
      rw [if_pos a,if_pos b]; exact .cons ⟨h1,h2⟩ ih
theorem KV.length {kvs:List (κ × V)} {vs:List (κ × Value)} (r:KV kvs vs):kvs.length = vs.length:=Paired.length r
end
theorem kV_is {P:Program} {w:World} {k:Key} {u:Value} (r:RelV (kV k) u):(mixKind P w).is k u = true:=by
  cases k with
  | inl i=>obtain ⟨t,e⟩:=(show ∃ t,u = Value.int i t from r); subst e; exact mixKind_int P w i t
  | inr x=>obtain ⟨t,e⟩:=(show ∃ t,u = Value.str x t from r); subst e; exact mixKind_str P w x t
theorem items_are {P:Program} {w:World}:∀ {ks:List Key} {us:List Value},Vals (ks.map kV) us → ItemsAre (mixKind P w) ks us
  | [],_,r=>by rw [List.map_nil] at r; cases r; exact .nil
  | k :: ks,_,r=>by
    rw [List.map_cons] at r
    cases r with
    | cons h t=>exact .cons (kV_is h) (items_are t)
abbrev KT (H:Hp):List (List Key × V) → List (List Key × Addr × Value) → Prop:=Paired fun p q=>p.1 = q.1 ∧ H q.2.1 = some (.tup (p.1.map kV)) ∧ RelV p.2 q.2.2
theorem KT.val {H:Hp} {kvs:List (List Key × V)} {xs:List (List Key × Addr × Value)} (r:KT H kvs xs) (k:List Key):RelO (valV kvs k) ((atKey xs k).map (·.2)):=by
  induction r with
  | nil=>exact True.intro
  | @cons p q ps qs h t ih =>
    obtain ⟨h1,_,h2⟩:=h
    by_cases e:p.1 = k
    · have e':q.1 = k:=h1.symm.trans e
      have b:atKey (q :: qs) k = some q.2:=by simp [atKey,List.find?_cons,e']
      rw [valV_pos e,b]; exact h2
    · have e':¬ q.1 = k:=fun z=>e (h1.trans z)
      have b:atKey (q :: qs) k = atKey qs k:=by simp [atKey,List.find?_cons,e']
      rw [valV_neg e,b]; exact ih
theorem KT.repl {H:Hp} {kvs:List (List Key × V)} {xs:List (List Key × Addr × Value)} (r:KT H kvs xs) (k:List Key) {y:V} {u:Value} (ry:RelV y u) :
    KT H (kvs.map fun kv=>if kv.1 = k then (kv.1,y) else kv) (xs.map (putAt k u)):=by
  induction r with
  | nil=>exact .nil
  | @cons p q ps qs h t ih =>
    rw [List.map_cons,List.map_cons]
    refine .cons ?_ ih
    obtain ⟨h1,h2,h3⟩:=h
    unfold putAt
    by_cases e:p.1 = k
    · rw [if_pos e,if_pos (h1.symm.trans e)]; exact ⟨h1,h2,ry⟩
    · rw [if_neg e,if_neg (fun z=>e (h1.trans z))]; exact ⟨h1,h2,h3⟩
theorem KT.put {H:Hp} {kvs:List (List Key × V)} {xs:List (List Key × Addr × Value)} (r:KT H kvs xs) (k:List Key) {b:Addr} {y:V} {u:Value} (hb:H b = some (.tup (k.map kV))) (ry:RelV y u) :
    KT H (putK kvs k y) (storedH xs k b u):=by
  have e:(kvs.any fun kv=>decide (kv.1 = k)) = (atKey xs k).isSome:=by
    rw [valV_any,(r.val k).isSome_eq,Option.isSome_map]
  unfold putK storedH
  rw [e]
  by_cases q:(atKey xs k).isSome = true
  · rw [if_pos q,if_pos q]; exact r.repl k ry
  · rw [if_neg q,if_neg q]; exact Paired.snoc r ⟨rfl,hb,ry⟩
theorem KT.keeps {H H':Hp} {kvs:List (List Key × V)} {xs:List (List Key × Addr × Value)} (r:KT H kvs xs) (ht:∀ b ys,H b = some (.tup ys) → H' b = some (.tup ys)):KT H' kvs xs :=
  Paired.mapP r fun _ _ z=>⟨z.1,ht _ _ z.2.1,z.2.2⟩
section
variable {P:Program} {w:World} {H:Hp} {h:Heap} {a:Addr}
theorem rd_of {u:HO} (ok:HOk P w H h) (e:Rd H a u):ObjOk P w H h a u:=e.ok ok
theorem dk_rd {kvs:List (Key × V)} (ok:HOk P w H h) (e:Rd H a (.dK kvs)):kvs.length ≤ sizeLine ∧ (a == sysModules) = false ∧ ∃ vs,KV kvs vs ∧ h.DictOf (mixKind P w) a vs :=
  show ObjOk P w H h a (.dK kvs) from rd_of ok e
theorem dk_of {kvs:List (Key × V)} (ok:HOk P w H h) (e:H a = some (.dK kvs)):kvs.length ≤ sizeLine ∧ (a == sysModules) = false ∧ ∃ vs,KV kvs vs ∧ h.DictOf (mixKind P w) a vs:=dk_rd ok (.inl e)
theorem key_of {ks:List Key} (ok:HOk P w H h) (e:H a = some (.tup (ks.map kV))):(tupleKind (mixKind P w)).is h ks a:=by
  obtain ⟨_,its,r,o,h1,h2,n,h3⟩:=(show ObjOk P w H h a (.tup (ks.map kV)) from ok a _ e)
  exact ⟨o,its.toArray,n,h1,h2,h3,by simpa using items_are r⟩
theorem dt_rd {kvs:List (List Key × V)} (ok:HOk P w H h) (e:Rd H a (.dT kvs)):kvs.length ≤ sizeLine ∧ (a == sysModules) = false ∧
    ∃ xs,KT H kvs xs ∧ h.DictOfH (tupleKind (mixKind P w)) a xs:=by
  obtain ⟨z,y,xs,r,o,es,ep,h1,h2,h3,h4,h5⟩:=(show ObjOk P w H h a (.dT kvs) from rd_of ok e)
  refine ⟨z,y,xs,r,o,es,ep,h1,h2,h3,h4,fun x hx=>?_,h5⟩
  have all:∀ {l:List (List Key × V)} {m:List (List Key × Addr × Value)},KT H l m → ∀ x ∈ m,(tupleKind (mixKind P w)).is h x.1 x.2.1:=by
    intro l m q
    induction q with
    | nil=>intro x hx; exact nomatch hx
    | @cons p q ps qs hq t ih =>
      intro x hx
      rcases List.mem_cons.mp hx with e | hx
      · subst e
        exact key_of ok (by rw [← hq.1]; exact hq.2.1)
      · exact ih x hx
  exact all r x hx
theorem dt_of {kvs:List (List Key × V)} (ok:HOk P w H h) (e:H a = some (.dT kvs)):kvs.length ≤ sizeLine ∧ (a == sysModules) = false ∧
    ∃ xs,KT H kvs xs ∧ h.DictOfH (tupleKind (mixKind P w)) a xs:=dt_rd ok (.inl e)
end
def DGet (H:Hp) (a:Addr) (y:V) (r:Option V):Prop :=
  (∃ kvs k,Rd H a (.dK kvs) ∧ y = kV k ∧ r = valV kvs k) ∨ ∃ kvs k b,Rd H a (.dT kvs) ∧ y = .ref b ∧ H b = some (.tup (k.map kV)) ∧ r = valV kvs k
def DPut (H:Hp) (a:Addr) (y v:V) (H':Hp):Prop :=
  (∃ kvs k,H a = some (.dK kvs) ∧ y = kV k ∧ kvs.length < sizeLine ∧ H' = upd H a (.dK (putK kvs k v))) ∨
  ∃ kvs k b,H a = some (.dT kvs) ∧ y = .ref b ∧ H b = some (.tup (k.map kV)) ∧ kvs.length < sizeLine ∧ H' = upd H a (.dT (putK kvs k v))
theorem DGet.k {H:Hp} {a:Addr} {kvs:List (Key × V)} {k:Key} (e:H a = some (.dK kvs)):DGet H a (kV k) (valV kvs k):=.inl ⟨kvs,k,.inl e,rfl,rfl⟩
theorem DGet.t {H:Hp} {a b:Addr} {kvs:List (List Key × V)} {k:List Key} (e:H a = some (.dT kvs)) (eb:H b = some (.tup (k.map kV))):DGet H a (.ref b) (valV kvs k):=.inr ⟨kvs,k,b,.inl e,rfl,eb,rfl⟩
theorem DPut.k {H:Hp} {a:Addr} {kvs:List (Key × V)} {k:Key} {v:V} (e:H a = some (.dK kvs)) (hl:kvs.length < sizeLine):DPut H a (kV k) v (upd H a (.dK (putK kvs k v))):=.inl ⟨kvs,k,e,rfl,hl,rfl⟩
theorem DPut.t {H:Hp} {a b:Addr} {kvs:List (List Key × V)} {k:List Key} {v:V} (e:H a = some (.dT kvs)) (eb:H b = some (.tup (k.map kV))) (hl:kvs.length < sizeLine) :
    DPut H a (.ref b) v (upd H a (.dT (putK kvs k v))):=.inr ⟨kvs,k,b,e,rfl,eb,hl,rfl⟩
section
variable {X:Cx} {pins:List (Addr × Obj)} {σ:St} {H:Hp} {s:Shared} {a:Addr} {y v:V} {u r:Value} {o:Option V} {A:Around} {E:Value → Shared → Prop}
theorem Inv.big (I:Inv X pins σ H s):sysModules < s.heap.objs.size:=by
  have h:mainGlobals < s.heap.objs.size:=(I.mod.glob.keeps I.bk).lt
  exact Nat.lt_trans (by decide) h
theorem d_getItem {Q:Value → Shared → Prop} (hu:A.units + 1 < cLine) (I:Inv X pins σ H s) (g:DGet H a y (some v)) (ry:RelV y u) (h:∀ w' s',Inv X pins σ H s' → RelV v w' → Q w' s') :
    wpAny (model X.prog X.w) A (getItem (.ref a) u) Q E s:=by
  rcases g with ⟨kvs,k,e,ey,l⟩ | ⟨kvs,k,b,e,ey,eb,l⟩
  · subst ey
    obtain ⟨z,hd,vs,rel,dd⟩:=dk_rd I.hok e
    obtain ⟨w',hw,rw'⟩:=RelO.some_of (v:=v) (o:=valueAt vs k) (by rw [l]; exact rel.val k)
    exact wpAny_getItem_of (kV_is ry) dd.mapOf hw (h w' _ (I.tok _) rw')
  · subst ey
    cases (show u = Value.ref b from ry)
    obtain ⟨z,hd,xs,rel,dd⟩:=dt_rd I.hok e
    obtain ⟨w',hw,rw'⟩:=RelO.some_of (v:=v) (o:=(atKey xs k).map (·.2)) (by rw [l]; exact rel.val k)
    obtain ⟨p,hp,hp2⟩:=Option.map_eq_some_iff.mp hw
    refine wpAny_getItem_heap (tupleKind_room_in1 hu) (key_of I.hok eb) dd hp ?_
    rw [hp2]
    exact h w' _ (I.tok _) rw'
theorem d_in {Q:Value → Shared → Prop} (hu:A.units + 1 < cLine) (I:Inv X pins σ H s) (g:DGet H a y o) (ry:RelV y u) (h:∀ s',Inv X pins σ H s' → Q (.bool o.isSome) s') :
    wpAny (model X.prog X.w) A (compareOp .In u (.ref a)) Q E s:=by
  rcases g with ⟨kvs,k,e,ey,l⟩ | ⟨kvs,k,b,e,ey,eb,l⟩
  · subst ey
    obtain ⟨z,hd,vs,rel,dd⟩:=dk_rd I.hok e
    refine wpAny_in_of (kV_is ry) hd dd.mapOf ?_
    rw [← (rel.val k).isSome_eq,← l]
    exact h _ (I.tok _)
  · subst ey
    cases (show u = Value.ref b from ry)
    obtain ⟨z,hd,xs,rel,dd⟩:=dt_rd I.hok e
    refine wpAny_in_heap (tupleKind_room_in1 hu) (key_of I.hok eb) hd dd ?_
    have q:=(rel.val k).isSome_eq
    rw [Option.isSome_map] at q
    rw [← q,← l]
    exact h _ (I.tok _)
theorem d_write {h':Heap} {t':Nat} {ob:HO} (I:Inv X pins σ H s) (mu:Mut (H a)) (hs:Heap.SameBut a s.heap h') (he:∃ q,h'.get? a = some q) (new:ObjOk X.prog X.w (upd H a ob) h' a ob) :
    Inv X pins σ (upd H a ob) { s with heap:=h',toks:=t' } :=
  I.write (x:=a) (e:=a) mu (.inl rfl) (fun b q hb z=>(hs.2 b hb).trans z) he new
theorem dk_new {P:Program} {w:World} {H':Hp} {h':Heap} {kvs:List (Key × V)} {vs:List (Key × Value)} (z:kvs.length ≤ sizeLine) (hd:(a == sysModules) = false) (rel:KV kvs vs) (dd:h'.DictOf (mixKind P w) a vs) :
    ObjOk P w H' h' a (.dK kvs):=⟨z,hd,vs,rel,dd⟩
theorem d_setItem {H':Hp} {Q:Unit → Shared → Prop} (hu:A.units + 1 < cLine) (I:Inv X pins σ H s) (g:DPut H a y v H') (ry:RelV y u) (rv:RelV v r) (h:∀ s',Inv X pins σ H' s' → Q () s') :
    wpAny (model X.prog X.w) A (setItem (.ref a) u r) Q E s:=by
  rcases g with ⟨kvs,k,e,ey,l,eH⟩ | ⟨kvs,k,b,e,ey,eb,l,eH⟩
  · subst ey eH
    obtain ⟨z,hd,vs,rel,dd⟩:=dk_of I.hok e
    have hz:vs.length ≤ sizeLine:=by rw [← rel.length]; exact z
    have hl:(putK kvs k v).length ≤ sizeLine:=by have:=length_putK kvs k v; omega
    refine wpAny_setItem_pairs (hsz:=hz) (kV_is ry) dd fun h' dd' hs=>h _ ?_
    have he:∃ q,h'.get? a = some q:=let ⟨q,_,_,hq,_⟩:=dd'; ⟨q,hq⟩
    exact d_write I (by rw [e]; exact True.intro) hs he (dk_new hl hd (rel.put k rv) dd')
  · subst ey eH
    cases (show u = Value.ref b from ry)
    obtain ⟨z,hd,xs,rel,dd⟩:=dt_of I.hok e
    have hz:xs.length ≤ sizeLine:=by rw [← Paired.length rel]; exact z
    have hl:(putK kvs k v).length ≤ sizeLine:=by have:=length_putK kvs k v; omega
    refine wpAny_setItem_heap (hsz:=hz) (tupleKind_room_in1 hu) (key_of I.hok eb) dd fun h' dd' hs=>h _ ?_
    obtain ⟨q,es,ep,hq,h2,h3,h4,_,h5⟩:=dd'
    refine d_write I (by rw [e]; exact True.intro) hs ⟨q,hq⟩ ⟨hl,hd,_,(rel.put k eb rv).keeps fun c ys ec=>?_,q,es,ep,hq,h2,h3,h4,h5⟩
    rw [upd_ne (ne_of ec e (fun z=>nomatch z))]
    exact ec
end
section
variable {X:Cx} {pins:List (Addr × Obj)} {σ:St} {H:Hp} {s:Shared} {a:Addr} {kvs:List (Key × V)} {k:Key} {u:Value} {A:Around} {E:Value → Shared → Prop}
end
def NoSl (i:Expr):Prop:=∀ ov iv,subscripted i false ov iv = operate [ov,iv] (getItem ov iv)
theorem subD_of {prog:Program} {w:World} {A:Around} {E:Value → Shared → Prop} {s:Shared} {env:Env} {value slice:Expr} {pos:Pos} {T id:String} {Q:Value → Shared → Prop}
    (hl:typeLookup (.type T) "__getitem__" = pure (some (.builtin id))) (hs:NoSl slice)
    (h:wpAny (model prog w) A (eval value env) (fun o s₁=>wpAny (model prog w) A (eval slice env) (fun i s₂=>s₂.TypeIs o T ∧ wpAny (model prog w) A (getItem o i) Q E s₂) E s₁) E s) :
    wpAny (model prog w) A (eval (.Subscript value slice pos) env) Q E s:=by
  refine Subscript_ (wpAny_mono h (fun o s₁ h₁=>wpAny_mono h₁ (fun i s₂ h₂=>?_) fun _ _ x=>x) fun _ _ x=>x)
  obtain ⟨hT,h₂⟩:=h₂
  unfold subscriptTail
  refine wpAny_bind ?_
  rw [getitemInPython_of_ne hT.not_modules]
  refine wpAny_bind (wpAny_specialOf hT hl ?_)
  have fin:wpAny (model prog w) A (subscripted slice false o i) (fun r s₃=>wpAny (model prog w) A (letTemporaryGo value o r >>= fun _=>pure r) Q E s₃) E s₂:=by
    rw [hs o i]
    exact wpAny_operating (wpAny_mono h₂ (fun r s₃ h₃=>wpAny_bind (wpAny_letTemporaryGo (wpAny_pure h₃))) fun _ _ x=>x)
  first
    | exact wpAny_pure (wpAny_bind fin)
    | exact wpAny_bind (wpAny_pure (wpAny_bind fin))
    | exact wpAny_bind fin
theorem dict_typeIs {X:Cx} {pins:List (Addr × Obj)} {σ:St} {H:Hp} {s:Shared} {a:Addr} {y:V} {o:Option V} (I:Inv X pins σ H s) (g:DGet H a y o):s.TypeIs (.ref a) "dict":=by
  rcases g with ⟨kvs,k,e,_,_⟩ | ⟨kvs,k,b,e,_,_,_⟩
  · obtain ⟨_,_,vs,_,dd⟩:=dk_rd I.hok e
    exact dd.typeIs
  · obtain ⟨_,_,xs,_,dd⟩:=dt_rd I.hok e
    exact dd.typeIs
def tDGet (td ty:TE):TE:=fun σ H Q=>td σ H fun x H1=>ty σ H1 fun y H2=>∃ a v,x = .ref a ∧ DGet H2 a y (some v) ∧ Q v H2
def tDIn (ty td:TE):TE:=fun σ H Q=>ty σ H fun y H1=>td σ H1 fun x H2=>∃ a o,x = .ref a ∧ DGet H2 a y o ∧ Q (.bl o.isSome) H2
def sDPut (td ty tv:TE):TS:=fun D σ H=>tv σ H fun v H1=>td σ H1 fun x H2=>ty σ H2 fun y H3=>∃ a H4,x = .ref a ∧ DPut H3 a y v H4 ∧ D.nx σ H4
section
variable {X:Cx} {o i e value:Expr} {pos pos' tpos:Pos} {td ty tv:TE}
theorem pe_dget (hu:X.A.units + 1 < cLine) (ho:PE X o td) (hi:PE X i ty) (hs:NoSl i):PE X (.Subscript o i pos) (tDGet td ty):=by
  intro pins s σ H Q I h
  refine subD_of PySem.F.slot_dict_getitem.lookup hs (thn (ho pins s σ H _ I h) fun u s1 ⟨x,H1,I1,rx,q1⟩=>thn (hi pins s1 σ H1 _ I1 q1) fun iv s2 ⟨y,H2,I2,ry,a,v,ex,g,q2⟩=>?_)
  subst ex
  obtain rfl:u = Value.ref a:=rx
  exact ⟨dict_typeIs I2 g,d_getItem hu I2 g ry fun w' s3 I3 rw'=>⟨v,H2,I3,rw',q2⟩⟩
theorem pc_din (hu:X.A.units + 1 < cLine) (hi:PE X i ty) (ho:PE X o td):PC X .In i o (tDIn ty td):=by
  intro pins s σ H Q I h
  refine thn (hi pins s σ H _ I h) fun iv s1 ⟨y,H1,I1,ry,q1⟩=>thn (ho pins s1 σ H1 _ I1 q1) fun u s2 ⟨x,H2,I2,rx,a,ov,ex,g,q2⟩=>?_
  subst ex
  obtain rfl:u = Value.ref a:=rx
  exact d_in hu I2 g ry fun s3 I3=>⟨.bl ov.isSome,H2,I3,rfl,q2⟩
theorem ps_dput (hu:X.A.units + 1 < cLine) (ho:PE X o td) (hi:PE X i ty) (hv:PE X value tv) (hs:swapsWith value (some (.Subscript o i pos')) pos.line X.env = pure false) :
    PS X (.Assign [.Subscript o i pos'] value pos) (sDPut td ty tv):=by
  intro pins s σ H D I h
  refine wpAny_Assign_Subscript (thn (hv pins s σ H _ I h) fun r s1 ⟨v,H1,I1,rv,q1⟩=>thn (ho pins s1 σ H1 _ I1 q1) fun u s2 ⟨x,H2,I2,rx,q2⟩=>thn (hi pins s2 σ H2 _ I2 q2) fun iv s3 ⟨y,H3,I3,ry,a,H4,ex,g,q3⟩=>?_) hs
  subst ex
  obtain rfl:u = Value.ref a:=rx
  exact d_setItem hu I3 g ry rv fun s4 I4=>⟨σ,H4,I4,q3⟩
end
theorem dt_empty {P:Program} {w:World} {H:Hp} (h:Heap) (hb:sysModules < h.objs.size):ObjOk P w H (h.push { cls:=.type "dict",data:=.dict #[] }) h.objs.size (.dT []) :=
  ⟨Nat.zero_le _,beq_eq_false_iff_ne.mpr (Ne.symm (Nat.ne_of_lt hb)),[],.nil,_,#[],0,Heap.get?_push_size _ rfl,⟨rfl,rfl,rfl⟩,rfl,rfl,List.nodup_nil⟩
def tDNewT:TE:=fun _ H Q=>∀ p,H p = none → Q (.ref p) (upd H p (.dT []))
section
variable {X:Cx} {pos:Pos}
theorem pe_dnewT:PE X (.Dict [] [] pos) tDNewT:=fun pins s σ H Q I h =>
  wpAny_Dict_empty ⟨.ref s.heap.objs.size,_,I.laid (a:=s.heap.objs.size) (o:=.dT []) (t':=s.toks) (fun _ _ q=>Heap.get?_push_of_some _ q) (Nat.le_refl _) (dt_empty s.heap I.big),rfl,h _ (I.hok.fresh (Nat.le_refl _))⟩
end
abbrev VV:List (V × V) → List (Value × Value) → Prop:=Paired fun p q=>RelV p.1 q.1 ∧ RelV p.2 q.2
structure M1 (X:Cx) (o:Expr) (m:Str) (apos:Pos) (e:Expr) (cpos:Pos):Prop where
  base:attributeBase o m X.env (eval o X.env) = eval o X.env
  few:((backTo cpos (starEach [e] X.env)).all (fun x=>!x.1) && (backToKw cpos (keywordEach [] X.env)).all (fun x=>x.1.isSome)
    && decide (([e]:List Expr).length + ([]:List Keyword).length + (if ([]:List Keyword).isEmpty then 0 else 1) < 30)) = true
  line:(apos.endLine == cpos.line) = true
  trees:backTo cpos (starEach [e] X.env) = [(false,eval e X.env)]
structure M2 (X:Cx) (o:Expr) (m:Str) (apos:Pos) (e f:Expr) (cpos:Pos):Prop where
  base:attributeBase o m X.env (eval o X.env) = eval o X.env
  few:((backTo cpos (starEach [e,f] X.env)).all (fun x=>!x.1) && (backToKw cpos (keywordEach [] X.env)).all (fun x=>x.1.isSome)
    && decide (([e,f]:List Expr).length + ([]:List Keyword).length + (if ([]:List Keyword).isEmpty then 0 else 1) < 30)) = true
  line:(apos.endLine == cpos.line) = true
  trees:backTo cpos (starEach [e,f] X.env) = [(false,eval e X.env),(false,eval f X.env)]
def IsD (H:Hp) (a:Addr):Prop:=(∃ kvs,Rd H a (.dK kvs)) ∨ ∃ kvs,Rd H a (.dT kvs)
theorem isD_at {X:Cx} {pins:List (Addr × Obj)} {σ:St} {H:Hp} {s:Shared} {a:Addr} (I:Inv X pins σ H s) (d:IsD H a) :
    s.TypeIs (.ref a) "dict" ∧ (∀ b,Value.ref a = .ref b → ∃ ob,s.heap.get? b = some ob ∧ ob.dict = none) ∧ (a == sysModules) = false:=by
  rcases d with ⟨kvs,e⟩ | ⟨kvs,e⟩
  · obtain ⟨_,hd,vs,_,dd⟩:=dk_rd I.hok e
    refine ⟨dd.typeIs,fun b q=>?_,hd⟩
    cases q
    obtain ⟨ob,_,_,h1,h2,_⟩:=dd
    exact ⟨ob,h1,h2.2.1⟩
  · obtain ⟨_,hd,xs,_,dd⟩:=dt_rd I.hok e
    refine ⟨dd.typeIs,fun b q=>?_,hd⟩
    cases q
    obtain ⟨ob,_,_,h1,h2,_⟩:=dd
    exact ⟨ob,h1,h2.2.1⟩
section
variable {X:Cx} {pins:List (Addr × Obj)} {σ:St} {H:Hp} {s:Shared} {a:Addr} {y d:V} {u r:Value} {o:Option V} {A:Around} {E:Value → Shared → Prop}
theorem d_get2 {Q:Value → Shared → Prop} (hu:A.units + 1 < cLine) (I:Inv X pins σ H s) (g:DGet H a y o) (ry:RelV y u) (rd:RelV d r) (h:∀ w' s',Inv X pins σ H s' → RelV (o.getD d) w' → Q w' s') :
    wpAny (model X.prog X.w) A (call (.builtin "dict.get") [.ref a,u,r]) Q E s:=by
  rcases g with ⟨kvs,k,e,ey,l⟩ | ⟨kvs,k,b,e,ey,eb,l⟩
  · subst ey
    obtain ⟨z,hd,vs,rel,dd⟩:=dk_rd I.hok e
    refine call_meetsIn PySem.F.slot_dict_get dd.typeIs PySem.F.entry_dict_get (PySem.F.args_dict_get_3 _ _ _) (meets_dict_get_default (mixKind X.prog X.w) a (kV_is ry) hd r) ⟨_,dd.mapOf,h _ _ (I.tok _) ?_⟩
    rw [l]
    exact (rel.val k).getD rd
  · subst ey
    cases (show u = Value.ref b from ry)
    obtain ⟨z,hd,xs,rel,dd⟩:=dt_rd I.hok e
    refine call_meetsIn PySem.F.slot_dict_get dd.typeIs PySem.F.entry_dict_get (PySem.F.args_dict_get_3 _ _ _) (meetsH_dict_get_default (tupleKind (mixKind X.prog X.w)) a b hd r) ⟨tupleKind_room_in1 hu,k,xs,key_of I.hok eb,dd,h _ _ (I.tok _) ?_⟩
    rw [l]
    exact (rel.val k).getD rd
end
def tDGet2 (td ty tx:TE):TE:=fun σ H Q=>td σ H fun x H1=>∃ a,x = .ref a ∧ IsD H1 a ∧ ty σ H1 fun y H2=>tx σ H2 fun z H3=>∃ o,DGet H3 a y o ∧ Q (o.getD z) H3
section
variable {X:Cx} {o e f:Expr} {apos cpos:Pos} {td ty tx:TE}
theorem pe_dget2 (hu:X.A.units + 1 < cLine) (ho:PE X o td) (he:PE X e ty) (hf:PE X f tx) (m:M2 X o "get" apos e f cpos):PE X (.Call (.Attribute o "get" apos) [e,f] [] cpos) (tDGet2 td ty tx):=by
  intro pins s σ H Q I h
  refine wpAny_Call_method m.base m.few m.line PySem.F.plainAttrs_dict PySem.F.slot_dict_get PySem.F.type_dict_get (thn (ho pins s σ H _ I h) fun u s1 ⟨x,H1,I1,rx,a,ex,d,q1⟩=>?_)
  subst ex
  obtain rfl:u = Value.ref a:=rx
  obtain ⟨t1,t2,_⟩:=isD_at I1 d
  refine ⟨t1,t2,?_⟩
  rw [m.trees]
  refine Calls.callWith_builtin rfl (Calls.evalArgs_plain (Calls.spliced_cons (thn (he pins s1 σ H1 _ I1 q1) fun iv s2 ⟨y,H2,I2,ry,q2⟩ =>
    Calls.spliced_cons (thn (hf pins s2 σ H2 _ I2 q2) fun fv s3 ⟨z,H3,I3,rz,ov,g,q3⟩=>Calls.spliced_nil ?_))))
  exact d_get2 hu I3 g ry rz fun w' s4 I4 rw'=>⟨_,H3,I4,rw',q3⟩
end
section
variable {X:Cx} {pins:List (Addr × Obj)} {σ:St} {H:Hp} {s:Shared} {a:Addr} {kvs:List (Key × V)} {A:Around} {E:Value → Shared → Prop}
end
section
variable {X:Cx} {pins:List (Addr × Obj)} {σ:St} {H:Hp} {s:Shared} {a:Addr} {y:V} {u:Value} {A:Around} {E:Value → Shared → Prop}
end
end L2
namespace PySem
open Sem (wp)
theorem d6_miss:typeLookup (.type "list") "keys" = pure none:=by rw [typeLookup_type,builtinLookup_eq_fast]; kernel_rfl
theorem keys_miss_list {prog:Program} {w:World} {A:Around} {E:Value → Shared → Prop} {s:Shared} {a:Addr} {o:Obj} {xs:Array Value} {k:Nat} {Q:Option Value → Shared → Prop}
    (hx:s.heap.get? a = some o) (hc:o.cls = .type "list") (hdat:o.data = .seq xs k) (hd:o.dict = none) (hA:A.handled = none)
    (h:∀ h' tk,(∀ b ob,s.heap.get? b = some ob → h'.get? b = some ob) → Q none { s with heap:=h',toks:=tk }) :
    wpAny (model prog w) A (getAttr? (.ref a) "keys") Q E s:=by
  obtain ⟨c,dct,dat,sl⟩:=o
  simp only at hc hdat hd
  subst hc hdat hd
  obtain ⟨hp,g,d,tk,os⟩:=s
  have hT:∀ tk',(⟨hp,g,d,tk',os⟩:Shared).TypeIs (.ref a) "list":=fun _=>⟨_,hx,rfl⟩
  have f1:=sub_AttributeError
  have f3:=F.slot_list_getattribute.lookup
  have f4:=F.slot_list_getattribute.bind (.ref a)
  have f5:=am_list_getattr_none
  unfold getAttr? getAttrBy? getAttrBy
  repeat (any_goals (first | assumption | exact hT _ | ((with_reducible show wpAny _ _ (call (Value.builtin "list.__getattribute__") _ _) _ _ _); refine call_meets F.slot_list_getattribute (hT _) am_entry_list_getattribute (F.args_list_getattribute_2 _ _) (meets_getattribute_miss_list a xs k sl "keys" _ d6_miss (by decide +kernel)) ⟨hx,hA,fun h' tk' e hx'=>?_⟩) | wp_step))
  obtain ⟨t',u',he⟩:=hx'.there
  show wpAny _ _ (getattributeRaised _ _ _ _ _ _ _) _ _ _
  unfold getattributeRaised
  repeat (any_goals (first | assumption | wp_step))
  exact h h' tk' hx'.keeps
end PySem
namespace L2
open PySem PySem.Spec PyProof.Rows
theorem entry_dloop:entryFor table "dict.update.loop" = some Builtin.«dict.update.loop»:=entryFor_of_tree (by kernel_rfl)
theorem plain_dloop:plainId "dict.update.loop" = true:=by decide +kernel
section
variable {prog:Program} {w:World} {A:Around} {E:Value → Shared → Prop}
theorem dict_loop {d it l:Addr} {Q:Value → Shared → Prop} (hA:A.handled = none) (hdi:d ≠ it) (hdl:d ≠ l) (hil:it ≠ l) (items:List Value) (prs:List (Key × Value)) (hsz:prs.length ≤ 900) :
    ∀ (m i:Nat) (s:Shared) (kvs:List (Key × Value)),items.length = i + m → kvs.length ≤ i → s.heap.IsListIter it l i → s.heap.IsList l items.toArray →
      (∀ (j:Nat) (x:Value) (p:Key × Value),items[j]? = some x → prs[j]? = some p → ∃ (t:Addr) (ku:Value),x = Value.ref t ∧ t ≠ d ∧ t ≠ it ∧ s.heap.IsTuple t #[ku,p.2] ∧ (mixKind prog w).is p.1 ku = true) →
      items.length = prs.length → s.heap.DictOf (mixKind prog w) d kvs →
      (∀ h' tk,(∀ b o,b ≠ d → b ≠ it → s.heap.get? b = some o → h'.get? b = some o) → h'.DictOf (mixKind prog w) d ((prs.drop i).foldl (fun a p=>stored a p.1 p.2) kvs) → Q .none { s with heap:=h',toks:=tk }) →
      codeAny (model prog w) A (.builtin "dict.update.loop" ⟨[.ref d,.ref it,rawInt i,.none],[]⟩) (wants Q E) s:=by
  intro m
  induction m with
  | zero =>
    intro i s kvs hn hk hit hl hp hlen hd hQ
    refine codeAny_builtin entry_dloop ?_
    rw [Around.under_plainId plain_dloop]
    unfold Builtin.«dict.update.loop»
    refine wpAny_bind (wpAny_pyNext_list_end (by exact hA) hit hl (by simp; omega) fun h' hx=>?_)
    refine wpAny_bind (wpAny_pure ?_)
    refine wpAny_pure ?_
    have hd':prs.drop i = []:=List.drop_eq_nil_of_le (by omega)
    rw [hd'] at hQ
    exact hQ h' s.toks (fun b o _ hb e=>hx b o hb e) (hd.extBut hx hdi)
  | succ m ih =>
    intro i s kvs hn hk hit hl hp hlen hd hQ
    have hi:i < items.length:=by omega
    have hi2:i < prs.length:=by omega
    have ex:=List.getElem?_eq_getElem hi
    have ep:=List.getElem?_eq_getElem hi2
    obtain ⟨t,ku,et,htd,hti,htt,hkey⟩:=hp i _ _ ex ep
    refine codeAny_builtin entry_dloop ?_
    rw [Around.under_plainId plain_dloop]
    unfold Builtin.«dict.update.loop»
    refine wpAny_bind (wpAny_pyNext_list_item hit hl (x:=items[i]) (by simpa using ex) fun h1 hit1 sb1=>?_)
    rw [et]
    have htt1:h1.IsTuple t #[ku,prs[i].2]:=by
      obtain ⟨o,ho,r⟩:=htt
      exact ⟨o,(sb1.2 t hti).trans ho,r⟩
    have hd1:h1.DictOf (mixKind prog w) d kvs:=hd.sameBut sb1 hdi
    have hT:(⟨h1,s.gens,s.drawn,s.toks,s.os⟩:Shared).TypeIs (.ref t) "tuple":=by
      obtain ⟨o,ho,hc,r⟩:=htt1
      exact ⟨_,ho,hc⟩
    refine wpAny_bind (wpAny_holding (wpAny_bind (wpAny_tryCatch ?_)))
    unfold Builtin.Dict.pairItems
    refine wpAny_bind (wpAny_typeOf hT ?_)
    rw [if_pos (by decide +kernel)]
    obtain ⟨o,ho,hc,n,hdat⟩:=id htt1
    refine wpAny_bind (wpAny_seqItems (s:=⟨h1,s.gens,s.drawn,s.toks,s.os⟩) ho hdat ?_)
    refine wpAny_pure ?_
    have hz:kvs.length ≤ sizeLine:=by
      have h9:(1000:Nat) ≤ sizeLine:=by decide
      omega
    show wpAny _ _ (holding [ku,prs[i].2] (dictSet d ku prs[i].2)) _ _ _
    refine wpAny_holding (wpAny_dictSet_pairs (s:=⟨h1,s.gens,s.drawn,s.toks,s.os⟩) hkey hd1 (fun h2 hd2 sb2=>?_) hz)
    refine wpAny_pure ?_
    refine ⟨Code.quiet_builtin _ (by decide +kernel),?_⟩
    have e1:rawInt ((i:Int) + 1) = rawInt ((i + 1:Nat):Int):=rfl
    have kp:∀ b o,b ≠ d → b ≠ it → s.heap.get? b = some o → h2.get? b = some o:=fun b o hb1 hb2 e=>(sb2.2 b hb1).trans ((sb1.2 b hb2).trans e)
    rw [e1]
    refine ih (i + 1) ⟨h2,s.gens,s.drawn,s.toks + 1,s.os⟩ (stored kvs prs[i].1 prs[i].2) (by omega) ?_ ?_ ?_ ?_ hlen hd2 ?_
    · unfold stored
      split
      · rw [List.length_map]; omega
      · rw [List.length_append,List.length_singleton]; omega
    · exact hit1.at fun o e=>(sb2.2 it (Ne.symm hdi)).trans e
    · exact hl.at fun o e=>kp l o (Ne.symm hdl) (Ne.symm hil) e
    · intro j x p hx hp'
      obtain ⟨t',ku',e',a1,a2,⟨o',ho',r'⟩,a4⟩:=hp j x p hx hp'
      exact ⟨t',ku',e',a1,a2,⟨o',kp t' o' a1 a2 ho',r'⟩,a4⟩
    · intro h' tk k2 hd'
      refine hQ h' tk (fun b o hb1 hb2 e=>k2 b o hb1 hb2 (kp b o hb1 hb2 e)) ?_
      rw [List.drop_eq_getElem_cons hi2]
      exact hd'
end
end L2
namespace L2
open PySem PySem.Spec PyProof.Rows
theorem KV.fold {ks:List (Key × V)} {us:List (Key × Value)} (r:KV ks us):∀ {a:List (Key × V)} {b:List (Key × Value)},KV a b → KV (ks.foldl (fun a p=>putK a p.1 p.2) a) (us.foldl (fun a p=>stored a p.1 p.2) b):=by
  induction r with
  | nil=>intro a b h; exact h
  | @cons p q ps qs h t ih =>
    intro a b hab
    refine ih ?_
    obtain ⟨e,rv⟩:=h
    show KV (putK a p.1 p.2) (stored b q.1 q.2)
    rw [← e]
    exact KV.put hab p.1 rv
theorem fold_len (ks:List (Key × V)):∀ a:List (Key × V),(ks.foldl (fun a p=>putK a p.1 p.2) a).length ≤ a.length + ks.length:=by
  induction ks with
  | nil=>intro a; exact Nat.le_refl _
  | cons p ps ih =>
    intro a
    have h1:=ih (putK a p.1 p.2)
    have h2:=length_putK a p.1 p.2
    rw [List.foldl_cons,List.length_cons]
    omega
section
variable {X:Cx}
def rDictP (K:PySem.W.Frag):List V → Hp → VK → Prop:=fun xs H Q=>∃ (l:Addr) (ys:List V) (prs:List (Key × V)),xs = [.ref l] ∧ SqL K H l ys ∧ ys.length = prs.length ∧ prs.length ≤ 900 ∧
  (∀ (j:Nat) (y:V) (p:Key × V),ys[j]? = some y → prs[j]? = some p → ∃ t,y = .ref t ∧ H t = some (.tup [kV p.1,p.2])) ∧ ∀ d,H d = none → Q (.ref d) (upd H d (.dK (prs.foldl (fun a p=>putK a p.1 p.2) [])))
theorem call_dictP (hc:X.calm = true):CallR X (.type "dict") (rDictP X.K):=by
  intro pins s σ H xs us Q I r h
  obtain ⟨l,ys,prs,rfl,hq,hlen,hsz,hp,q⟩:=h
  obtain ⟨u,rfl,rx⟩:=vals1 r
  cases rx
  obtain ⟨its,rv,pl,hz⟩:=I.list hq
  have hli:=rv.length
  have hA:X.A.handled = none:=I.ok.hd hc
  have hpr:∃ us:List (Key × Value),KV prs us ∧ ∀ (j:Nat) (x:Value) (p:Key × Value),its[j]? = some x → us[j]? = some p → ∃ (t:Addr) (ku:Value),x = Value.ref t ∧ s.heap.IsTuple t #[ku,p.2] ∧ (mixKind X.prog X.w).is p.1 ku = true:=by
    clear hq pl hz q r
    have gen:∀ (prs:List (Key × V)) (ys:List V) (its:List Value),Vals ys its → ys.length = prs.length → (∀ (j:Nat) (y:V) (p:Key × V),ys[j]? = some y → prs[j]? = some p → ∃ t,y = .ref t ∧ H t = some (.tup [kV p.1,p.2])) →
        ∃ us:List (Key × Value),KV prs us ∧ ∀ (j:Nat) (x:Value) (p:Key × Value),its[j]? = some x → us[j]? = some p → ∃ (t:Addr) (ku:Value),x = Value.ref t ∧ s.heap.IsTuple t #[ku,p.2] ∧ (mixKind X.prog X.w).is p.1 ku = true:=by
      intro prs
      induction prs with
      | nil=>intro ys its rv hl _; exact ⟨[],.nil,fun j x p _ e=>by simp at e⟩
      | cons p ps ih =>
        intro ys its rv hl hp
        cases rv with
        | nil=>simp at hl
        | @cons y u ys us' ru rus =>
          obtain ⟨us,k1,k2⟩:=ih ys us' rus (by simpa using hl) fun j y' p' h1 h2=>hp (j + 1) y' p' h1 h2
          obtain ⟨t,e,ht⟩:=hp 0 y p rfl rfl
          subst e
          cases ru
          obtain ⟨tis,tv,tp,_⟩:=I.tuple (SqT.of ht)
          cases tv with
          | cons rk tv1 =>
            cases tv1 with
            | cons rw2 tv2 =>
              cases tv2
              rename_i ku vu
              refine ⟨(p.1,vu) :: us,.cons ⟨rfl,rw2⟩ k1,fun j x p' h1 h2=>?_⟩
              cases j with
              | zero =>
                simp at h1 h2
                subst h1 h2
                exact ⟨t,ku,rfl,tp,kV_is rk⟩
              | succ j=>exact k2 j x p' h1 h2
    exact gen prs ys its rv hlen hp
  obtain ⟨us,kv,hus⟩:=hpr
  have hul:=kv.length
  obtain ⟨o,n,ho,hcl,hdn,hdat⟩:=pl
  refine callType_codes (Q₁:=fun obj s₁=>obj = .ref s.heap.objs.size ∧ s₁ = { s with heap:=s.heap.push { cls:=.type "dict",data:=.dict #[] } }) PySem.F.kt_called_dict (PySem.F.kt_typeCall_dict_1 _) PySem.F.entry_dict_init (kt_code_dict_new _ ⟨rfl,rfl⟩) ?_
  rintro obj s₁ ⟨rfl,rfl⟩
  have hnew:(s.heap.push { cls:=.type "dict",data:=.dict #[] }).DictOf (mixKind X.prog X.w) s.heap.objs.size []:=Heap.DictOf.new s.heap
  have kp0:∀ b o,s.heap.get? b = some o → (s.heap.push { cls:=.type "dict",data:=.dict #[] }).get? b = some o:=fun b o e=>Heap.get?_push_of_some _ e
  refine ⟨hnew.typeIs,PySem.F.args_dict_init_2 _ _,?_⟩
  unfold Builtin.«dict.__init__»
  refine wpAny_bind ?_
  unfold Builtin.Dict.selfAndRest
  refine wpAny_bind (wpAny_notOrdered_dict hnew.typeIs ?_)
  show wpAny _ _ (pure (s.heap.objs.size,[Value.ref l])) _ _ _
  refine wpAny_pure ?_
  show wpAny _ _ (Builtin.Dict.updateFrom "dict.__init__" s.heap.objs.size (.ref l) [] .none) _ _ _
  unfold Builtin.Dict.updateFrom
  generalize hP:s.heap.push { cls:=.type "dict",data:=.dict #[] } = hp1 at *
  have hlT:(⟨hp1,s.gens,s.drawn,s.toks,s.os⟩:Shared).TypeIs (.ref l) "list":=⟨_,kp0 _ _ ho,hcl⟩
  refine wpAny_bind (wpAny_typeOf hlT ?_)
  rw [if_pos (by decide +kernel)]
  refine wpAny_bind (keys_miss_list (s:=⟨hp1,s.gens,s.drawn,s.toks,s.os⟩) (kp0 _ _ ho) hcl hdat hdn hA fun h2 tk2 kp2=>?_)
  rw [if_pos (show (none:Option Value).isNone = true from rfl)]
  refine wpAny_bind (wpAny_rule ?_)
  have kp02:∀ b o,s.heap.get? b = some o → h2.get? b = some o:=fun b o e=>kp2 b o (kp0 b o e)
  have hl2:h2.IsList l its.toArray:=⟨o,kp02 _ _ ho,hcl,n,hdat⟩
  refine wpAny_bind (wpAny_pyIter_list (s:=⟨h2,s.gens,s.drawn,tk2,s.os⟩) hl2 ?_)
  refine wpAny_pure ?_
  refine ⟨Code.quiet_builtin _ (by decide +kernel),?_⟩
  have hd2:h2.DictOf (mixKind X.prog X.w) s.heap.objs.size []:=by
    obtain ⟨o',es,ep,ho',r'⟩:=hnew
    exact ⟨o',es,ep,kp2 _ _ ho',r'⟩
  have ltd:s.heap.objs.size < h2.objs.size:=by
    obtain ⟨o',es,ep,ho',r'⟩:=hd2
    exact Heap.lt_size ho'
  have ltl:l < h2.objs.size:=Heap.lt_size (kp02 _ _ ho)
  have nold:∀ b o,s.heap.get? b = some o → b ≠ s.heap.objs.size:=fun b o e=>Nat.ne_of_lt (Heap.lt_size e)
  have kp3:∀ b o,s.heap.get? b = some o → ∀ x,(h2.push x).get? b = some o:=fun b o e x=>Heap.get?_push_of_some _ (kp02 b o e)
  refine dict_loop (d:=s.heap.objs.size) (it:=h2.objs.size) (l:=l) (by exact hA) (Nat.ne_of_lt ltd) (Ne.symm (nold _ _ ho)) (Ne.symm (Nat.ne_of_lt ltl)) its us (by omega) its.length 0 _ [] (by omega) (Nat.zero_le _) ⟨_,Heap.get?_push_size _ rfl,rfl,rfl⟩ ⟨o,kp3 _ _ ho _,hcl,n,hdat⟩ ?_ (by omega) ?_ ?_
  · intro j x p h1 h2'
    obtain ⟨t,ku,e,⟨ot,hot,rt⟩,hk⟩:=hus j x p h1 h2'
    exact ⟨t,ku,e,nold _ _ hot,Nat.ne_of_lt (Heap.lt_size (kp02 _ _ hot)),⟨ot,kp3 _ _ hot _,rt⟩,hk⟩
  · obtain ⟨o',es,ep,ho',r'⟩:=hd2
    exact ⟨o',es,ep,Heap.get?_push_of_some _ ho',r'⟩
  · intro h' tk k3 hd'
    refine ⟨rfl,.ref s.heap.objs.size,_,I.laid (a:=s.heap.objs.size) (o:=.dK (prs.foldl (fun a p=>putK a p.1 p.2) [])) (t':=tk) (fun b q hq'=>?_) (Nat.le_refl _) (dk_new ?_ (beq_eq_false_iff_ne.mpr (Ne.symm (Nat.ne_of_lt I.big))) (kv.fold .nil) hd'),rfl,q _ (I.hok.fresh (Nat.le_refl _))⟩
    · exact k3 b q (nold _ _ hq') (Nat.ne_of_lt (Heap.lt_size (kp02 _ _ hq'))) (kp3 _ _ hq' _)
    · have h9:(1000:Nat) ≤ sizeLine:=by decide
      have h8:=fold_len prs []
      rw [List.length_nil] at h8
      omega
end
end L2
namespace PySem
open Sem (wp)
section
variable {prog:Program} {w:World} {A:Around} {E:Value → Shared → Prop} {s:Shared}
theorem drawT_item {it t:Addr} {i:Nat} {items:Array Value} {x:Value} {Q:Value → Shared → Prop} (hI:s.heap.IsTupleIter it t i) (hT:s.heap.IsTuple t items) (hx:items[i]? = some x)
    (q:∀ h',h'.IsTupleIter it t (i + 1) → Heap.SameBut it s.heap h' → Q x { s with heap:=h' }):wpAny (model prog w) A (Builtin.SmallTypes.nextOf (.ref it)) Q E s:=by
  obtain ⟨oi,hoi,hci,hdi⟩:=id hI
  obtain ⟨ot,hot,_,nt,hdt⟩:=hT
  unfold Builtin.SmallTypes.nextOf
  refine wpAny_bind (wpAny_callSpecial?_slot (name:=Str.ofString "__next__") hI.typeIs F.slot_tuple_iterator_next (wpAny_call_entry F.slot_tuple_iterator_next hI.typeIs F.entry_tuple_iterator_next ?_ (F.args_tuple_iterator_next_1 _)))
  refine wpAny_bind (m:=field (.ref it) 0) (wpAny_field hoi hdi (x:=.ref t) rfl ?_)
  dsimp only
  rw [if_neg (show ¬ ((Value.ref t == Value.none) = true) by exact Bool.false_ne_true)]
  refine wpAny_bind (m:=field (.ref it) 1) (wpAny_field hoi hdi (x:=.int i 0) rfl ?_)
  refine wpAny_bind (m:=seqItems? (.ref t)) (wpAny_seqItems hot hdt ?_)
  simp only [Int.toNat_natCast,hx]
  refine wpAny_bind (wpAny_setField hoi hdi (by simp) (wpAny_pure ⟨x,rfl,wpAny_pure (q _ ⟨_,Heap.get?_update_self _ hoi (Obj.isFreed_of_fields (Obj.data_mapFields hdi _)),(Obj.cls_mapFields ..).trans hci,?_⟩ (Heap.SameBut.update ..))⟩))
  rw [Obj.data_mapFields hdi]
  simp [rawInt]
theorem drawT_end {it t:Addr} {i:Nat} {items:Array Value} {Q:Value → Shared → Prop} (hh:A.handled = none) (hI:s.heap.IsTupleIter it t i) (hT:s.heap.IsTuple t items) (hx:items[i]? = none)
    (q:∀ h' e,Heap.ExtBut it s.heap h' → (∃ o,h'.get? e = some o ∧ o.cls = .type "StopIteration") → E (.ref e) { s with heap:=h' }):wpAny (model prog w) A (Builtin.SmallTypes.nextOf (.ref it)) Q E s:=by
  obtain ⟨oi,hoi,hci,hdi⟩:=id hI
  obtain ⟨ot,hot,_,nt,hdt⟩:=hT
  unfold Builtin.SmallTypes.nextOf
  refine wpAny_bind (wpAny_callSpecial?_slot (name:=Str.ofString "__next__") hI.typeIs F.slot_tuple_iterator_next (wpAny_call_entry F.slot_tuple_iterator_next hI.typeIs F.entry_tuple_iterator_next ?_ (F.args_tuple_iterator_next_1 _)))
  refine wpAny_bind (m:=field (.ref it) 0) (wpAny_field hoi hdi (x:=.ref t) rfl ?_)
  dsimp only
  rw [if_neg (show ¬ ((Value.ref t == Value.none) = true) by exact Bool.false_ne_true)]
  refine wpAny_bind (m:=field (.ref it) 1) (wpAny_field hoi hdi (x:=.int i 0) rfl ?_)
  refine wpAny_bind (m:=seqItems? (.ref t)) (wpAny_seqItems hot hdt ?_)
  simp only [Int.toNat_natCast,hx]
  refine wpAny_bind (wpAny_rule (wpAny_bind (wpAny_setField hoi hdi (by simp) (wpAny_bind (m:=newExc (.type "StopIteration") []) ?_))))
  simp only [newExc,newTuple]
  refine wpAny_bind (wpAny_newObj_type (wpAny_bind (m:=firstArgMember _ _) (wpAny_of_eq (a:=Value.none) (by first | rfl | (simp only [firstArgMember]; rfl)) (wpAny_newObj_type ?_ (by size_fits)))) (by size_fits))
  simp only [raiseNew]
  refine wpAny_bind (wpAny_handled ?_)
  first | rw [show A.in1.handled = none by exact hh] | rw [hh]
  exact wpAny_bind (wpAny_pure (wpAny_throw (q _ _ (((Heap.SameBut.update ..).extBut.push _).push _) ⟨_,Heap.get?_push_size _ rfl,rfl⟩)))
theorem Draws.tup (hh:A.handled = none) (it t:Addr) (hne:t ≠ it) (items:Array Value):Draws prog w A it [it,t] items.size (fun i v=>items[i]? = some v) (fun i h=>h.IsTupleIter it t i ∧ h.IsTuple t items) where
  live:=fun _ _ st=>let ⟨o,ho,_⟩:=st.1; ⟨o,ho⟩
  frame:=fun _ _ _ st hk=>⟨st.1.at fun o e=>hk it (by simp) o e,let ⟨o,ho,r⟩:=st.2; ⟨o,hk t (by simp) o ho,r⟩⟩
  item:=fun i s Q E hi st hQ=>by
    refine drawT_item st.1 st.2 (x:=items[i]) (by simp [hi]) fun h' hit' hs'=>hQ _ h' s.toks (by simp [hi]) ⟨hit',?_⟩ hs'
    obtain ⟨o,ho,r⟩:=st.2
    exact ⟨o,(hs'.2 t hne).trans ho,r⟩
  done:=fun s Q E st hE=>drawT_end hh st.1 st.2 (by simp) hE
theorem meets_enumT (l:Addr) (items:Array Value) (n:Nat) (dct:Option Addr) (sl:Array (Option Value)) :
    Meets (Builtin.«enumerate.__new__» ⟨[.type "enumerate",.ref l],[]⟩) (fun _ R s=>s.heap.get? l = some { cls:=.type "tuple",dict:=dct,data:=.seq items n,slots:=sl } ∧
      R (.ok (.ret (.ref (s.heap.push { cls:=.type "tuple_iterator",data:=.fields #[.ref l,.int 0 0] }).objs.size)))
        { s with heap:=(s.heap.push { cls:=.type "tuple_iterator",data:=.fields #[.ref l,.int 0 0] }).push { cls:=.type "enumerate",data:=.fields #[.none,.bool false,.ref s.heap.objs.size,rawInt 0,.none,.none] } }) :=
  .of_wp fun prog w A R s h=>by
    obtain ⟨hp,g,d,tk,os⟩:=s; obtain ⟨hl,h⟩:=h
    have hsub:=sub_enumerate
    have hL:Heap.IsTuple (Shared.heap ⟨hp,g,d,tk,os⟩) l items:=⟨_,hl,rfl,n,rfl⟩
    wp_walk using wpAny_loadPart' hl
    refine wpAny_stack_any fun st=>wpAny_pure ?_
    split
    · rename_i c _ _ _ _ _
      cases (c == Value.type "enumerate") <;> (wp_walk using wpAny_loadPart' hl,wpAny_pyIter_tuple hL; exact ⟨_,rfl,h⟩)
    · wp_walk using wpAny_loadPart' hl,wpAny_pyIter_tuple hL
      exact ⟨_,rfl,h⟩
theorem call_enumT {l:Addr} {items:Array Value} {Q:Value → Shared → Prop} (hL:s.heap.IsTuple l items)
    (h:∀ h',IsEnum h' (s.heap.objs.size + 1) s.heap.objs.size 0 .none → h'.IsTupleIter s.heap.objs.size l 0 → h'.objs.size = s.heap.objs.size + 2 → (∀ b o,s.heap.get? b = some o → h'.get? b = some o) → Q (.ref (s.heap.objs.size + 1)) { s with heap:=h' }) :
    wpAny (model prog w) A (call (.type "enumerate") [.ref l]) Q E s:=by
  obtain ⟨⟨c,dct,dt,sl⟩,hl,hc,n,hd⟩:=hL
  replace hc:c = .type "tuple":=hc
  replace hd:dt = .seq items n:=hd
  subst hc hd
  refine callType_new F.called_enumerate (by decide) (F.typeCall_enumerate_1 _) (F.newCall_enumerate_1 _) (fun obj=>F.args_object_init_2 obj _) F.entry_enumerate_new (meets_enumT l items n dct sl) ⟨hl,?_⟩
  generalize hI:({ cls:=.type "tuple_iterator",data:=.fields #[.ref l,.int 0 0] }:Obj) = oi
  have hz:(s.heap.push oi).objs.size = s.heap.objs.size + 1:=Heap.size_push ..
  show _ ∧ _
  rw [hz]
  have he:IsEnum ((s.heap.push oi).push { cls:=.type "enumerate",data:=.fields #[.none,.bool false,.ref s.heap.objs.size,rawInt 0,.none,.none] }) (s.heap.objs.size + 1) s.heap.objs.size 0 .none:=by
    have g:=Heap.get?_push_size (s.heap.push oi) (o:={ cls:=.type "enumerate",data:=.fields #[.none,.bool false,.ref s.heap.objs.size,rawInt 0,.none,.none] }) rfl
    rw [hz] at g
    exact g
  subst hI
  exact ⟨⟨_,he,rfl⟩,h _ he ⟨_,Heap.get?_push_of_some _ (Heap.get?_push_size _ rfl),rfl,rfl⟩ (by rw [Heap.size_push,hz]) fun b o x=>Heap.get?_push_of_some _ (Heap.get?_push_of_some _ x)⟩
end
end PySem
namespace L2
open PySem PySem.Spec PyProof.Rows
theorem Inv.turnedL {X:Cx} {pins:List (Addr × Obj)} {σ:St} {H:Hp} {s:Shared} {h':Heap} {t':Nat} {ch:List Addr} (I:Inv X pins σ H s) (hch:∀ b ∈ ch,FpOk X pins H b) (k:∀ b o,b ∉ ch → s.heap.get? b = some o → h'.get? b = some o):Inv X pins σ H { s with heap:=h',toks:=t' }:=by
  have nit:∀ b u,H b = some u → b ∉ ch:=fun b u e z=>by rw [(hch b z).1] at e; cases e
  refine I.step (g':=s.gens) (d':=s.drawn) (ch:=ch) (fun b hb=>?_) (fun b o _ _ hc e _=>k b o hc e) (fun b o _ _ hc e _=>⟨o.slots,k b o hc e⟩) (fun _ _ _ _ n=>n) (fun b o hc e=>⟨o,k b o hc e⟩) (fun _ _ e=>e) (fun _ _ _ e=>e) (fun b ps e=>⟨#[],by rw [e]; simp⟩) (fun m hm=>?_) (fun b u e=>?_) I.bare
  · obtain ⟨f0,f1,f2,f3,f4,f5⟩:=hch b hb
    exact ⟨f3,f1,f4,f5⟩
  · obtain ⟨o,es,ep,ho,r⟩:=hm
    exact ⟨o,es,ep,k _ o (fun z=>(hch _ z).2.1 rfl) ho,r⟩
  · refine (I.hok b u e).stay (fun c v hc q=>k c v ?_ q) (fun _ q=>q) fun _ _ q=>q
    rcases hc with z | z
    · rw [z]; exact nit b u e
    · exact nit c _ z
theorem Inv.turnedLaid {X:Cx} {pins:List (Addr × Obj)} {σ:St} {H:Hp} {s:Shared} {h':Heap} {t':Nat} {ch:List Addr} {T:Addr} {ob:HO} (I:Inv X pins σ H s) (hch:∀ b ∈ ch,FpOk X pins H b) (k:∀ b o,b ∉ ch → s.heap.get? b = some o → h'.get? b = some o)
    (hT:s.heap.objs.size ≤ T) (new:ObjOk X.prog X.w (upd H T ob) h' T ob):Inv X pins σ (upd H T ob) { s with heap:=h',toks:=t' }:=by
  have hn:H T = none:=I.hok.fresh hT
  have nit:∀ b u,H b = some u → b ∉ ch:=fun b u e z=>by rw [(hch b z).1] at e; cases e
  have up:∀ b u,H b = some u → (upd H T ob) b = some u:=fun b u e=>by rw [upd_ne (ne_of_none e hn)]; exact e
  refine I.step (g':=s.gens) (d':=s.drawn) (ch:=ch) (fun b hb=>?_) (fun b o _ _ hc e _=>k b o hc e) (fun b o _ _ hc e _=>⟨o.slots,k b o hc e⟩) (fun b o _ e n=>?_) (fun b o hc e=>⟨o,k b o hc e⟩) (fun b _ e=>up b _ e) (fun b _ _ e=>up b _ e) (fun b ps e=>⟨#[],by rw [up b _ e]; simp⟩) (fun m hm=>?_) (fun b u e=>?_) I.bare
  · obtain ⟨f0,f1,f2,f3,f4,f5⟩:=hch b hb
    exact ⟨f3,f1,f4,f5⟩
  · rw [upd_ne (Nat.ne_of_lt (Nat.lt_of_lt_of_le (Heap.lt_size e) hT))]; exact n
  · obtain ⟨o,es,ep,ho,r⟩:=hm
    exact ⟨o,es,ep,k _ o (fun z=>(hch _ z).2.1 rfl) ho,r⟩
  · by_cases hb:b = T
    · subst hb; rw [upd_same] at e; cases e; exact new
    · rw [upd_ne hb] at e
      refine (I.hok b u e).stay (fun c v hc q=>k c v ?_ q) (fun c q=>up c _ q) fun c _ q=>up c _ q
      rcases hc with z | z
      · rw [z]; exact nit b u e
      · exact nit c _ z
def Itte (K:PySem.W.Frag) (a:Addr):It :=
  ⟨fun i H=>∃ xs x,SqT K H a xs ∧ xs[i]? = some x,fun i H v H'=>∃ T x,H T = none ∧ v = .ref T ∧ (∀ xs,SqT K H a xs → xs[i]? = some x) ∧ H' = upd H T (.tup [.int i,x]),fun i H=>∃ xs,SqT K H a xs ∧ xs.length = i⟩
theorem turn_enumT {P:Program} {w:World} {K:PySem.W.Frag} {elts:List Expr} {kk:Nat} {tp:Pos} (e it a:Addr) (hei:e ≠ it):Turn P w K (.Tuple elts kk tp) (Itte K a) [e,it] e (fun i h=>(∃ old,IsEnum h e it i old) ∧ h.IsTupleIter it a i) where
  mem:=by simp
  obj:=fun i h st b hb=>by
    obtain ⟨⟨old,he⟩,o,ho,hc,hd⟩:=st
    rcases List.mem_cons.mp hb with q | q
    · subst q
      exact ⟨_,he,fun v z=>by have z':Data.fields _ = Data.cell v:=z; cases z'⟩
    · rw [List.mem_singleton.mp q]
      exact ⟨o,ho,fun v z=>by rw [hd] at z; cases z⟩
  keep:=fun i h h' st k=>⟨st.1.imp fun old x=>k e (by simp) _ x,st.2.at fun o x=>k it (by simp) o x⟩
  item:=by
    intro X hP hw hK hc i pins s σ H E I hf st hg
    subst hP hw hK
    obtain ⟨xs,x,hq,hx⟩:=hg
    obtain ⟨its,rv,p,hz⟩:=I.tuple hq
    obtain ⟨u,hu,ru⟩:=rv.get hx
    have hA:X.A.handled = none:=I.ok.hd hc
    obtain ⟨⟨old,he⟩,hI⟩:=id st
    have hai:a ≠ it:=fun z=>by
      obtain ⟨o1,g1,c1,_⟩:=p
      obtain ⟨o2,g2,c2,_⟩:=hI
      rw [z,g2] at g1
      cases g1
      rw [c2] at c1
      exact absurd c1 (by decide)
    have hae:e ≠ a:=fun z=>by
      obtain ⟨o1,g1,c1,_⟩:=p
      have g2:s.heap.get? e = _:=he
      rw [← z,g2] at g1
      cases g1
      exact absurd (show Value.type "enumerate" = Value.type "tuple" from c1) (by decide)
    have W:=WalksT.enumerateD (prog:=X.prog) (w:=X.w) (A:=X.A) (Draws.tup (by exact hA) it a hai its.toArray) e hei (by simp [hei,hae]) (by simp)
    have hi:i < its.toArray.size:=by
      have:=(List.getElem?_eq_some_iff.mp hu).1
      simpa using this
    refine W.item i s _ _ hi ⟨⟨old,he⟩,hI,p⟩ fun T vals h' tk hv hT hIT hmid k1=>?_
    obtain ⟨t',x',hx',rfl⟩:=hv
    have ex:x' = u:=by
      have h2:its.toArray[i]? = some u:=by simpa using hu
      rw [h2] at hx'
      exact (Option.some.inj hx').symm
    subst ex
    refine ⟨_,rfl,W.go elts kk tp i T _ _ _ hmid fun h2 hst2 k2=>?_⟩
    have hTw:=W.apart i T _ hmid
    have new:ObjOk X.prog X.w (upd H T (.tup [.int i,x])) h2 T (.tup [.int i,x]):=by
      obtain ⟨ot,g1,r1⟩:=hIT
      exact ⟨by show 2 ≤ sizeLine; decide,[.int i t',x'],.cons ⟨t',rfl⟩ (.cons ru .nil),ot,k2 T ot hTw g1,r1⟩
    refine ⟨.ref T,_,I.turnedLaid (ch:=[e,it]) (t':=tk) hf (fun b o hb g=>k2 b o hb (k1 b o hb g)) hT new,rfl,⟨T,x,I.hok.fresh hT,rfl,fun ys hy=>by rw [I.tuple_inj hy hq]; exact hx,rfl⟩,⟨hst2.1,hst2.2.1⟩,fun b hb=>?_⟩
    have hbT:b ≠ T:=fun z=>hTw (by rw [← z]; exact hb)
    rw [upd_ne hbT]
    exact (hf b hb).1
  done:=by
    intro X hP hw hK hc i pins s σ H E I hf st hg
    subst hP hw hK
    obtain ⟨xs,hq,hx⟩:=hg
    obtain ⟨its,rv,p,hz⟩:=I.tuple hq
    have hA:X.A.handled = none:=I.ok.hd hc
    obtain ⟨⟨old,he⟩,hI⟩:=id st
    have hai:a ≠ it:=fun z=>by
      obtain ⟨o1,g1,c1,_⟩:=p
      obtain ⟨o2,g2,c2,_⟩:=hI
      rw [z,g2] at g1
      cases g1
      rw [c2] at c1
      exact absurd c1 (by decide)
    have hae:e ≠ a:=fun z=>by
      obtain ⟨o1,g1,c1,_⟩:=p
      have g2:s.heap.get? e = _:=he
      rw [← z,g2] at g1
      cases g1
      exact absurd (show Value.type "enumerate" = Value.type "tuple" from c1) (by decide)
    have W:=WalksT.enumerateD (prog:=X.prog) (w:=X.w) (A:=X.A) (Draws.tup (by exact hA) it a hai its.toArray) e hei (by simp [hei,hae]) (by simp)
    have hl:=rv.length
    have en:its.toArray.size = i:=by simp; omega
    refine W.done s _ _ ?_ fun h' tk k1=>⟨rfl,I.turnedL (ch:=[e,it]) (t':=tk) hf fun b o hb g=>k1 b o hb g⟩
    rw [en]
    exact ⟨⟨old,he⟩,hI,p⟩
  self:=fun _ _ _ _ _ st h=>by
    obtain ⟨⟨old,he⟩,_⟩:=st
    exact wpAny_pyIter_enum he h
section
variable {X:Cx}
def iEnumT (K:PySem.W.Frag) (ta:TA):TI:=fun σ H R=>ta σ H fun vs H1=>∃ a,vs = [.ref a] ∧ (∃ xs,SqT K H1 a xs) ∧ R (Itte K a) H1
theorem pi_enumT {a:Expr} {ta:TA} {p pos:Pos} {elts:List Expr} {kk:Nat} {tp:Pos} (hg:Gl X "enumerate") (hm:X.mg "enumerate" = none) (ha:PA X [a] ta) (hs:starEach [a] X.env = [(false,eval a X.env)]:=by rfl) :
    PI X (.Tuple elts kk tp) (.Call (.Name "enumerate" p) [a] [] pos) (iEnumT X.K ta):=by
  intro pins s σ H R I h
  refine Call_ (ld_blt I hg hm boot_enumerate (PyProof.Rows.callWith_type1 (thn (ha pos pins s σ H _ I h) fun us s1 ⟨vs,H1,I1,r1,q1⟩=>?_) hs rfl))
  obtain ⟨l,e,⟨xs,hq⟩,q⟩:=q1
  subst e
  cases r1 with
  | cons r rr =>
    cases rr
    cases r
    obtain ⟨its,rv,p,hz⟩:=I1.tuple hq
    refine call_enumT p fun h' he hi hsz kp=>wpAny_pyIter_enum he ⟨s1.heap.objs.size + 1,[s1.heap.objs.size + 1,s1.heap.objs.size],_,_,H1,rfl,I1.kept (t':=s1.toks) kp,turn_enumT _ _ l (Nat.ne_of_gt (Nat.lt_succ_self _)),⟨⟨_,he⟩,hi⟩,fun b hb=>?_,q⟩
    rcases List.mem_cons.mp hb with z | z
    · subst z; exact I1.fpOk (Nat.le_succ _) (I1.hok.fresh (Nat.le_succ _))
    · rw [List.mem_singleton.mp z]; exact I1.fpOk (Nat.le_refl _) (I1.hok.fresh (Nat.le_refl _))
theorem for_enumT {K:PySem.W.Frag} {a:Addr} {xs:List V} {g:TG} {tb:TS} {D:Ends} {σ:St} {H:Hp} (Pv:Nat → St → Hp → Prop) (h0:Pv 0 σ H) (hl:∀ i σ H,i ≤ xs.length → Pv i σ H → SqT K H a xs)
    (hs:∀ i x σ H T,xs[i]? = some x → Pv i σ H → H T = none → g (.ref T) σ (upd H T (.tup [.int i,x])) fun σ2 H2=>tb { D with nx:=Pv (i + 1),ct:=Pv (i + 1),bk:=D.nx } σ2 H2) (hd:∀ σ H,Pv xs.length σ H → D.nx σ H) :
    ∃ W:Nat → Nat → St → Hp → Prop,(∃ m,W 0 m σ H) ∧ ∀ i m σ H,W i m σ H →
      ((Itte K a).stop i H ∧ D.nx σ H) ∨ ((Itte K a).go i H ∧ ∃ N:St → Hp → Prop,(∀ σ' H',N σ' H' → ∃ m',m' < m ∧ W (i + 1) m' σ' H') ∧ ∀ x H',(Itte K a).yld i H x H' → g x σ H' fun σ2 H2=>tb { D with nx:=N,ct:=N,bk:=D.nx } σ2 H2):=by
  refine ⟨fun i m σ H=>m = xs.length - i ∧ i ≤ xs.length ∧ Pv i σ H,⟨xs.length,by simp,Nat.zero_le _,h0⟩,?_⟩
  rintro i m σ H ⟨rfl,hi,p⟩
  have q:=hl i σ H hi p
  by_cases hlt:i < xs.length
  · refine .inr ⟨⟨xs,xs[i],q,by simp [hlt]⟩,Pv (i + 1),fun σ' H' p'=>⟨xs.length - (i + 1),by omega,rfl,hlt,p'⟩,fun v H' y=>?_⟩
    obtain ⟨T,x,hT,rfl,y,rfl⟩:=y
    exact hs i x σ H T (y xs q) p hT
  · have e:i = xs.length:=by omega
    subst e
    exact .inl ⟨⟨xs,q,rfl⟩,hd σ H p⟩
end
end L2
namespace SH
open PySem L2
def wayGo:List Int → Int → List Nd → List Int
  | W,_,[]=>W
  | W,k,n :: r=>wayGo (W.take n.2.toNat ++ [k]) (k + 1) r
def way (ns:List Nd):List Int:=wayGo [] 0 ns
theorem wayGo_append:∀ (a b:List Nd) (W:List Int) (k:Int),wayGo W k (a ++ b) = wayGo (wayGo W k a) (k + a.length) b
  | [],b,W,k=>by show wayGo W k b = wayGo W (k + ((0:Nat):Int)) b; rw [show k + ((0:Nat):Int) = k by omega]
  | n :: a,b,W,k=>by
    show wayGo _ (k + 1) (a ++ b) = _
    rw [wayGo_append a b]
    show wayGo (wayGo _ (k + 1) a) (k + 1 + a.length) b = wayGo (wayGo _ (k + 1) a) (k + (n :: a).length) b
    rw [List.length_cons,show k + 1 + (a.length:Int) = k + ((a.length + 1:Nat):Int) by omega]
theorem way_snoc (ns:List Nd) (n:Nd):way (ns ++ [n]) = (way ns).take n.2.toNat ++ [(ns.length:Int)]:=by
  unfold way
  rw [wayGo_append]
  show (wayGo [] 0 ns).take n.2.toNat ++ [0 + (ns.length:Int)] = _
  rw [Int.zero_add]
theorem way_take {ns:List Nd} {i:Nat} {n:Nd} (h:ns[i]? = some n):way (ns.take (i + 1)) = (way (ns.take i)).take n.2.toNat ++ [(i:Int)]:=by
  have hi:=(List.getElem?_eq_some_iff.mp h).1
  rw [List.take_add_one,h]
  show way (ns.take i ++ [n]) = _
  rw [way_snoc,List.length_take,Nat.min_eq_left (by omega)]
theorem way_mem {ns:List Nd}:∀ i,i ≤ ns.length → ∀ j ∈ way (ns.take i),0 ≤ j ∧ j < (i:Int):=by
  intro i
  induction i with
  | zero=>intro _ j hj; rw [List.take_zero] at hj; exact nomatch hj
  | succ i ih =>
    intro hi j hj
    rw [way_take (List.getElem?_eq_getElem (by omega:i < ns.length))] at hj
    rcases List.mem_append.mp hj with h | h
    · have:=ih (by omega) j (List.mem_of_mem_take h); omega
    · rw [List.mem_singleton.mp h]; omega
theorem way_len {ns:List Nd}:∀ i,i ≤ ns.length → (way (ns.take i)).length ≤ i:=by
  intro i
  induction i with
  | zero=>intro _; rw [List.take_zero]; exact Nat.le_refl _
  | succ i ih =>
    intro hi
    rw [way_take (List.getElem?_eq_getElem (by omega:i < ns.length)),List.length_append,List.length_take,List.length_singleton]
    have:=ih (by omega)
    omega
def anc (ns:List Nd) (k:Nat):List Int:=(way (ns.take k)).take ((ns.getD k ("",0)).2.toNat)
theorem anc_mem {ns:List Nd} {k:Nat} (hk:k ≤ ns.length):∀ j ∈ anc ns k,0 ≤ j ∧ j < (k:Int):=fun j hj=>way_mem k hk j (List.mem_of_mem_take hj)
theorem anc_of {ns:List Nd} {k:Nat} {n:Nd} (h:ns[k]? = some n):anc ns k = (way (ns.take k)).take n.2.toNat:=by
  unfold anc
  rw [List.getD_eq_getElem?_getD,h]
  rfl
def kept (ps W:List Int):List Int:=W.filter fun j=>decide (j ∈ ps)
theorem kept_append (ps a b:List Int):kept ps (a ++ b) = kept ps a ++ kept ps b:=List.filter_append ..
theorem kept_one (ps:List Int) (k:Int):kept ps [k] = if k ∈ ps then [k] else []:=by
  unfold kept
  by_cases h:k ∈ ps <;> simp [h]
theorem kept_prefix {ps a b:List Int} (h:a <+: b):kept ps a <+: kept ps b:=by
  obtain ⟨c,rfl⟩:=h
  exact ⟨kept ps c,(kept_append ps a c).symm⟩
def cntL (ps W:List Int):List Int:=(List.range (W.length + 1)).map fun j=>((kept ps (W.take j)).length:Int)
theorem cntL_take (ps W:List Int) (d:Nat):(cntL ps W).take (d + 1) = cntL ps (W.take d):=by
  unfold cntL
  rw [← List.map_take,List.take_range,List.length_take,show min (d + 1) (W.length + 1) = min d W.length + 1 by omega]
  apply List.map_congr_left
  intro j hj
  have:=List.mem_range.mp hj
  rw [List.take_take,Nat.min_eq_left (by omega)]
theorem cntL_snoc (ps W:List Int) (k:Int):cntL ps (W ++ [k]) = cntL ps W ++ [((kept ps W).length:Int) + if k ∈ ps then 1 else 0]:=by
  unfold cntL
  rw [List.length_append,List.length_singleton,List.range_succ,List.map_append]
  congr 1
  · apply List.map_congr_left
    intro j hj
    have:=List.mem_range.mp hj
    rw [List.take_append_of_le_length (by omega)]
  · rw [List.map_cons,List.map_nil,List.take_of_length_le (by rw [List.length_append,List.length_singleton]; omega),kept_append,kept_one]
    by_cases h:k ∈ ps <;> simp [h]
theorem cntL_len (ps W:List Int):(cntL ps W).length = W.length + 1:=by unfold cntL; rw [List.length_map,List.length_range]
theorem cntL_last (ps W:List Int):(cntL ps W)[W.length]? = some ((kept ps W).length:Int):=by
  unfold cntL
  rw [List.getElem?_map,List.getElem?_range (by omega)]
  show some (((kept ps (W.take W.length)).length:Nat):Int) = _
  rw [List.take_length]
theorem cntL_at (ps W:List Int):atI ((cntL ps W).map V.int) (-1) = some (.int ((kept ps W).length:Int)):=by
  have e:cntL ps W = (cntL ps W).take W.length ++ [((kept ps W).length:Int)]:=by
    have h:=List.take_add_one (l:=cntL ps W) (i:=W.length)
    rw [cntL_last,List.take_of_length_le (by rw [cntL_len]; omega)] at h
    exact h
  rw [e,List.map_append]
  exact atI_last _ _
theorem Same.none {H H':Hp} (s:Same H H') {b:Addr} (h:H' b = none):H b = none:=by
  cases e:H b with
  | none=>rfl
  | some o=>rw [s _ _ e] at h; cases h
def below (ps:List Int) (i:Nat):List Int:=ps.filter fun p=>decide (p < (i:Int))
theorem below_none {i:Nat}:∀ {lo m:Int} {ps:List Int},placesOk lo m ps → (i:Int) ≤ lo → below ps i = []:=fun {lo m ps} h hi=>by
  unfold below
  rw [List.filter_eq_nil_iff]
  intro p hp
  have:=(places_all h p hp).1
  simp; omega
theorem below_succ {i:Nat}:∀ {lo m:Int} {ps:List Int},placesOk lo m ps → below ps (i + 1) = below ps i ++ (if (i:Int) ∈ ps then [(i:Int)] else [])
  | _,_,[],_=>rfl
  | lo,m,p :: r,h=>by
    obtain ⟨h1,h2,h3⟩:=h
    have ih:=below_succ (i:=i) h3
    have e1:∀ k:Nat,below (p :: r) k = if p < (k:Int) then p :: below r k else below r k:=fun k=>by
      unfold below
      rw [List.filter_cons]
      by_cases h:p < (k:Int) <;> simp [h]
    rw [e1,e1]
    by_cases hlt:p < (i:Int)
    · rw [if_pos hlt,if_pos (by omega),ih]
      have:((i:Int) ∈ p :: r) ↔ (i:Int) ∈ r:=by
        rw [List.mem_cons]
        exact ⟨fun z=>z.elim (fun z=>by omega) id,.inr⟩
      by_cases hm:(i:Int) ∈ r
      · rw [if_pos hm,if_pos (this.mpr hm)]; rfl
      · rw [if_neg hm,if_neg (fun z=>hm (this.mp z))]; rfl
    · rw [if_neg hlt,below_none h3 (by omega)]
      by_cases he:p = (i:Int)
      · rw [if_pos (by omega),below_none h3 (by omega),if_pos (by rw [he]; exact List.mem_cons_self),he]; rfl
      · rw [if_neg (by omega),below_none h3 (by omega),if_neg ?_]
        · rfl
        · intro z
          rcases List.mem_cons.mp z with z | z
          · exact he z.symm
          · have:=(places_all h3 _ z).1; omega
theorem below_all {n:Nat} {lo:Int} {ps:List Int} (h:placesOk lo n ps):below ps n = ps:=by
  unfold below
  rw [List.filter_eq_self]
  intro p hp
  have:=(places_all h p hp).2
  simp; omega
theorem below_at:∀ {lo m:Int} {ps:List Int} {k:Nat} {p:Int},placesOk lo m ps → 0 ≤ lo → ps[k]? = some p → below ps p.toNat = ps.take k
  | _,_,[],k,p,_,_,hk=>by simp at hk
  | lo,m,q :: r,0,p,h,h0,hk=>by
    obtain ⟨h1,h2,h3⟩:=h
    simp at hk
    subst hk
    rw [List.take_zero]
    unfold below
    rw [List.filter_eq_nil_iff]
    intro x hx
    rcases List.mem_cons.mp hx with z | z
    · subst z; simp; omega
    · have:=(places_all h3 _ z).1; simp; omega
  | lo,m,q :: r,k + 1,p,h,h0,hk=>by
    obtain ⟨h1,h2,h3⟩:=h
    have hk':r[k]? = some p:=hk
    have:=(places_all h3 _ (List.mem_of_getElem? hk')).1
    have ih:=below_at h3 (by omega) hk'
    unfold below at ih ⊢
    rw [List.filter_cons,if_pos (by simp; omega),List.take_succ_cons,ih]
theorem below_len {lo m:Int} {ps:List Int} {i:Nat} (h:placesOk lo m ps) (h0:0 ≤ lo) (hi:(i:Int) ∈ ps):ps[(below ps i).length]? = some (i:Int):=by
  obtain ⟨k,hk⟩:=List.getElem?_of_mem hi
  have e:=below_at h h0 hk
  rw [Int.toNat_natCast] at e
  have:=(List.getElem?_eq_some_iff.mp hk).1
  rw [e,List.length_take,Nat.min_eq_left (by omega)]
  exact hk
def nodeL (ns:List Nd) (ps:List Int) (p:Int):Nd:=((ns.getD p.toNat ("",0)).1,((kept ps (anc ns p.toNat)).length:Int))
def leftN (ns:List Nd) (ps:List Int):List Nd:=ps.map (nodeL ns ps)
theorem deepAfter_le:∀ {d:Int} {ns:List Nd},d ≤ 12 → deepAfter d ns ≤ 12
  | _,[],h=>h
  | _,n :: r,_=>deepAfter_le (ns:=r) (by show min (n.2 + 1) 12 ≤ 12; omega)
theorem depth12 {ns:List Nd} {i:Nat} {n:Nd} (hd:depthOk 0 ns) (h:ns[i]? = some n):markS n.1 = true ∧ 0 ≤ n.2 ∧ n.2 ≤ 12:=by
  have e:ns = ns.take i ++ (n :: ns.drop (i + 1)):=by
    have q:=List.take_append_drop (i + 1) ns
    rw [List.take_add_one,h,List.append_assoc] at q
    exact q.symm
  rw [e] at hd
  obtain ⟨_,h1,h2,h3,_⟩:=depthOk_append.mp hd
  have:=deepAfter_le (d:=0) (ns:=ns.take i) (by omega)
  exact ⟨h1,h2,by omega⟩
theorem prefix_eq {a b:List Int} (h:a <+: b):b.take a.length = a:=by
  obtain ⟨c,rfl⟩:=h
  simp
theorem left_inv {ns:List Nd} {ps:List Int} (hd:depthOk 0 ns) (hp:placesOk 0 ns.length ps):∀ i,i ≤ ns.length →
    kept ps (way (ns.take i)) <+: (way ((below ps i).map (nodeL ns ps))).map (fun j=>ps.getD j.toNat 0) ∧ depthOk 0 ((below ps i).map (nodeL ns ps)) ∧ deepAfter 0 ((below ps i).map (nodeL ns ps)) = min ((way ((below ps i).map (nodeL ns ps))).length:Int) 12:=by
  intro i
  induction i with
  | zero =>
    intro _
    rw [below_none (i:=0) hp (by omega),List.take_zero]
    exact ⟨⟨[],rfl⟩,trivial,rfl⟩
  | succ i ih =>
    intro hi
    obtain ⟨h1,h2,h3⟩:=ih (by omega)
    have hn:ns[i]? = some ns[i]:=List.getElem?_eq_getElem (by omega)
    obtain ⟨hm,d0,d12⟩:=depth12 hd hn
    rw [way_take hn,kept_append,kept_one,below_succ hp]
    have hpre:kept ps ((way (ns.take i)).take ns[i].2.toNat) <+: kept ps (way (ns.take i)):=kept_prefix (List.take_prefix ..)
    generalize hR:(below ps i).map (nodeL ns ps) = R at h1 h2 h3 ⊢
    by_cases hk:(i:Int) ∈ ps
    · rw [if_pos hk,List.map_append,hR]
      rw [List.map_cons,List.map_nil]
      have eN:nodeL ns ps (i:Int) = (ns[i].1,((kept ps ((way (ns.take i)).take ns[i].2.toNat)).length:Int)):=by
        unfold nodeL
        rw [Int.toNat_natCast,anc_of hn,List.getD_eq_getElem?_getD,hn]
        rfl
      rw [way_snoc,eN,Int.toNat_natCast]
      generalize hA:kept ps ((way (ns.take i)).take ns[i].2.toNat) = A at hpre ⊢
      have lA:A.length ≤ ns[i].2.toNat:=by
        rw [← hA]
        refine Nat.le_trans (List.length_filter_le ..) ?_
        rw [List.length_take]; omega
      have pV:A <+: (way R).map (fun j=>ps.getD j.toNat 0):=hpre.trans h1
      have lV:A.length ≤ (way R).length:=by have:=pV.length_le; rw [List.length_map] at this; exact this
      have hl:R.length = (below ps i).length:=by rw [← hR,List.length_map]
      have hg:ps.getD R.length 0 = (i:Int):=by rw [hl,List.getD_eq_getElem?_getD,below_len hp (by omega) hk]; rfl
      refine ⟨?_,?_,?_⟩
      · rw [List.map_append,List.map_take,prefix_eq pV,List.map_cons,List.map_nil,Int.toNat_natCast,hg]
        exact ⟨[],by simp⟩
      · exact depthOk_append.mpr ⟨h2,hm,by omega,by rw [h3]; show (A.length:Int) ≤ _; omega,trivial⟩
      · rw [deepAfter_append]
        show min ((A.length:Int) + 1) 12 = _
        rw [List.length_append,List.length_take,List.length_singleton]
        omega
    · rw [if_neg hk,List.append_nil,List.append_nil,hR]
      exact ⟨hpre.trans h1,h2,h3⟩
theorem left_ok {ns:List Nd} {ps:List Int} (hd:depthOk 0 ns) (hp:placesOk 0 ns.length ps):depthOk 0 (leftN ns ps):=by
  have h:=(left_inv hd hp ns.length (Nat.le_refl _)).2.1
  rw [below_all hp] at h
  exact h
theorem left_way {ns:List Nd} {ps:List Int} (hd:depthOk 0 ns) (hp:placesOk 0 ns.length ps) {k:Nat} {p:Int} (hk:ps[k]? = some p):(anc (leftN ns ps) k).map (fun j=>ps.getD j.toNat 0) = kept ps (anc ns p.toNat):=by
  obtain ⟨p0,p1⟩:=places_all hp p (List.mem_of_getElem? hk)
  have hi:p.toNat < ns.length:=by omega
  obtain ⟨h1,_,_⟩:=left_inv hd hp p.toNat (by omega)
  rw [below_at hp (by omega) hk] at h1
  have e1:(leftN ns ps)[k]? = some (nodeL ns ps p):=by unfold leftN; rw [List.getElem?_map,hk]; rfl
  rw [anc_of e1]
  have e2:(leftN ns ps).take k = (ps.take k).map (nodeL ns ps):=by unfold leftN; rw [List.map_take]
  rw [e2,List.map_take]
  show List.take (((kept ps (anc ns p.toNat)).length:Int)).toNat _ = _
  rw [Int.toNat_natCast]
  refine prefix_eq (List.IsPrefix.trans (kept_prefix ?_) h1)
  unfold anc
  exact List.take_prefix ..
theorem hu1 {n:Nat} (h:n + 64 < cLine):n + 1 < cLine:=by omega
theorem fold_val (ps:List Int):∀ (acc:List (Key × V)) (j:Int),(valV ((ps.map fun q=>((Sum.inl q:Key),V.bl true)).foldl (fun a p=>putK a p.1 p.2) acc) (Sum.inl j)).isSome = (decide (j ∈ ps) || (valV acc (Sum.inl j)).isSome):=by
  induction ps with
  | nil=>intro acc j; simp
  | cons p r ih =>
    intro acc j
    rw [List.map_cons,List.foldl_cons,ih,valV_put]
    by_cases h:j = p
    · subst h; simp
    · have:¬ ((Sum.inl j:Key) = Sum.inl p):=fun z=>h (Sum.inl.inj z)
      simp [this,h]
end SH
namespace L2
open PySem PySem.Spec PyProof.Rows
section
variable {X:Cx}
def rRange1:List V → Hp → VK → Prop:=fun xs H Q=>∃ n:Int,xs = [.int n] ∧ ∀ r,H r = none → Q (.ref r) (upd H r (.rng 0 n))
def rRange2:List V → Hp → VK → Prop:=fun xs H Q=>∃ lo hi:Int,xs = [.int lo,.int hi] ∧ ∀ r,H r = none → Q (.ref r) (upd H r (.rng lo hi))
theorem call_rangeV2:CallR X (.type "range") rRange2:=by
  intro pins s σ H xs us Q I r h
  obtain ⟨lo,hi,rfl,q⟩:=h
  cases r with
  | cons r1 rr =>
    cases rr with
    | cons r2 rr =>
      cases rr
      obtain ⟨t,rfl⟩:=r1
      obtain ⟨t',rfl⟩:=r2
      refine call_range_2 ⟨.ref s.heap.objs.size,_,I.laid (a:=s.heap.objs.size) (o:=.rng lo hi) (fun b o e=>Heap.get?_push_of_some _ e) (Nat.le_refl _) ?_,rfl,q _ (I.hok.fresh (Nat.le_refl _))⟩
      exact ⟨_,_,_,Heap.get?_push_size _ rfl⟩
def rListR:List V → Hp → VK → Prop:=fun xs H Q=>∃ (r:Addr) (lo hi:Int),xs = [.ref r] ∧ H r = some (.rng lo hi) ∧ (-(2 ^ 62) ≤ lo ∧ lo < 2 ^ 62 ∧ -(2 ^ 62) ≤ hi ∧ hi < 2 ^ 62) ∧ (hi - lo).toNat ≤ 900 ∧ ∀ l,H l = none → Q (.ref l) (upd H l (.lst (((List.range (hi - lo).toNat).map fun i:Nat=>lo + (i:Int)).map V.int)))
theorem vals_items:∀ {ns:List Int} {vs:List Value},ns.length = vs.length → (∀ (i:Nat) (n:Int) (v:Value),ns[i]? = some n → vs[i]? = some v → ∃ t,v = .int n t) → Vals (ns.map V.int) vs
  | [],[],_,_=>.nil
  | [],_ :: _,h,_=>by simp at h
  | _ :: _,[],h,_=>by simp at h
  | n :: ns,v :: vs,h,k=>by
    refine .cons ?_ (vals_items (by simpa using h) fun i n v h1 h2=>k (i + 1) n v h1 h2)
    obtain ⟨t,e⟩:=k 0 n v rfl rfl
    exact ⟨t,e⟩
theorem call_listR (hc:X.calm = true):CallR X (.type "list") rListR:=by
  intro pins s σ H xs us Q I r h
  obtain ⟨ra,lo,hi,rfl,hr,⟨h1,h2,h3,h4⟩,hsz,q⟩:=h
  obtain ⟨u,rfl,rx⟩:=vals1 r
  cases rx
  have hA:X.A.handled = none:=I.ok.hd hc
  obtain ⟨t,u,v,e⟩:=(show ObjOk X.prog X.w H s.heap ra (.rng lo hi) from I.hok ra _ hr)
  have en:Builtin.Range.rangeSize lo hi 1 = (((hi - lo).toNat:Nat):Int):=by rw [rangeSize_one]; split <;> omega
  refine call_list_range hA (show IsRange s.heap ra lo hi 1 t u v from e) (small_one h1 h2 h3 h4) en (by omega) fun h' tk acc c kp he hi'=>?_
  obtain ⟨hz,hitem⟩:=hi'
  have z9:(1000:Nat) ≤ sizeLine:=by decide
  refine ⟨.ref s.heap.objs.size,_,I.laid (a:=s.heap.objs.size) (o:=.lst (((List.range (hi - lo).toNat).map fun i:Nat=>lo + (i:Int)).map V.int)) (t':=tk) kp (Nat.le_refl _) ⟨?_,acc.toList,c,?_,?_⟩,rfl,q _ (I.hok.fresh (Nat.le_refl _))⟩
  · rw [List.length_map,List.length_map,List.length_range]; omega
  · refine vals_items (by rw [List.length_map,List.length_range]; simpa using hz.symm) fun i n w e1 e2=>?_
    rw [List.getElem?_map] at e1
    obtain ⟨j,ej,rfl⟩:=Option.map_eq_some_iff.mp e1
    have hj:=(List.getElem?_eq_some_iff.mp ej)
    obtain ⟨hj1,hj2⟩:=hj
    rw [List.getElem_range] at hj2
    subst hj2
    obtain ⟨t',e'⟩:=hitem i w (by simpa using e2)
    exact ⟨t',by rw [e',Int.mul_one]⟩
  · simpa using he
end
end L2
namespace SH
open PySem L2
theorem placesOk_iff:∀ {lo m:Int} {ps:List Int},placesOk lo m ps ↔ (∀ p ∈ ps,lo ≤ p ∧ p < m) ∧ ps.Pairwise (· < ·)
  | _,_,[]=>⟨fun _=>⟨(fun _ h=>nomatch h),List.Pairwise.nil⟩,fun _=>trivial⟩
  | lo,m,p :: r=>by
    constructor
    · rintro ⟨h1,h2,h3⟩
      obtain ⟨a,b⟩:=placesOk_iff.mp h3
      refine ⟨fun q hq=>?_,List.pairwise_cons.mpr ⟨fun q hq=>by have:=(a q hq).1; omega,b⟩⟩
      rcases List.mem_cons.mp hq with z | z
      · subst z; exact ⟨h1,h2⟩
      · have:=a q z; omega
    · rintro ⟨a,b⟩
      obtain ⟨c,d⟩:=List.pairwise_cons.mp b
      have:=a p List.mem_cons_self
      exact ⟨this.1,this.2,placesOk_iff.mpr ⟨fun q hq=>⟨by have:=c q hq; omega,(a q (List.mem_cons_of_mem _ hq)).2⟩,d⟩⟩
def both (ps qs:List Int):List Int:=qs.map fun q=>ps.getD q.toNat 0
theorem getD_at {α:Type} {ps:List α} {d:α} {q:Int} (h0:0 ≤ q) (h1:q < ps.length):∃ h:q.toNat < ps.length,ps.getD q.toNat d = ps[q.toNat]:=by
  have h:q.toNat < ps.length:=by omega
  exact ⟨h,by rw [List.getD_eq_getElem?_getD,List.getElem?_eq_getElem h]; rfl⟩
theorem both_ok {m:Int} {ps qs:List Int} (hp:placesOk 0 m ps) (hq:placesOk 0 ps.length qs):placesOk 0 m (both ps qs):=by
  obtain ⟨a,b⟩:=placesOk_iff.mp hp
  obtain ⟨c,d⟩:=placesOk_iff.mp hq
  refine placesOk_iff.mpr ⟨fun p h=>?_,?_⟩
  · obtain ⟨q,hq',rfl⟩:=List.mem_map.mp h
    obtain ⟨h1,e⟩:=getD_at (d:=(0:Int)) (c q hq').1 (c q hq').2
    rw [e]
    exact a _ (List.getElem_mem h1)
  · refine List.pairwise_map.mpr (d.imp_of_mem fun {x y} hx hy hxy=>?_)
    obtain ⟨h1,e1⟩:=getD_at (d:=(0:Int)) (c x hx).1 (c x hx).2
    obtain ⟨h2,e2⟩:=getD_at (d:=(0:Int)) (c y hy).1 (c y hy).2
    rw [e1,e2]
    exact List.pairwise_iff_getElem.mp b _ _ h1 h2 (by have:=(c x hx).1; omega)
theorem both_len (ps qs:List Int):(both ps qs).length = qs.length:=List.length_map _
def upTo (n:Nat):List Int:=(List.range n).map fun i:Nat=>(0:Int) + (i:Int)
theorem upTo_ok (n:Nat):placesOk 0 n (upTo n):=by
  refine placesOk_iff.mpr ⟨fun p h=>?_,?_⟩
  · obtain ⟨i,hi,rfl⟩:=List.mem_map.mp h
    have:=List.mem_range.mp hi
    omega
  · refine List.pairwise_map.mpr (List.pairwise_lt_range.imp fun {x y} h=>?_)
    omega
theorem upTo_len (n:Nat):(upTo n).length = n:=by unfold upTo; rw [List.length_map,List.length_range]
theorem mem_upTo {n:Nat} {p:Int} (h0:0 ≤ p) (h1:p < n):p ∈ upTo n:=List.mem_map.mpr ⟨p.toNat,List.mem_range.mpr (by omega),by omega⟩
theorem upTo_map {α:Type} (f:Int → α) (n:Nat):(upTo n).map f = (List.range n).map fun i:Nat=>f i:=by
  unfold upTo
  rw [List.map_map]
  apply List.map_congr_left
  intro i _
  show f (0 + (i:Int)) = f i
  rw [Int.zero_add]
theorem range_getD {α:Type} (xs:List α) (d:α):(List.range xs.length).map (fun i=>xs.getD i d) = xs:=by
  apply List.ext_getElem?
  intro i
  rw [List.getElem?_map]
  by_cases h:i < xs.length
  · rw [List.getElem?_range h,List.getElem?_eq_getElem h]
    show some (xs.getD i d) = _
    rw [List.getD_eq_getElem?_getD,List.getElem?_eq_getElem h]
    rfl
  · rw [List.getElem?_eq_none (by rw [List.length_range]; omega),List.getElem?_eq_none (by omega)]
    rfl
def leftR (xs:List V) (ps:List Int):List V:=ps.map fun i=>xs.getD i.toNat .non
theorem leftR_both {xs:List V} {ps qs:List Int} (hq:placesOk 0 ps.length qs):leftR (leftR xs ps) qs = leftR xs (both ps qs):=by
  unfold leftR both
  rw [List.map_map]
  apply List.map_congr_left
  intro q h
  obtain ⟨q0,q1⟩:=places_all hq q h
  obtain ⟨h1,e⟩:=getD_at (d:=(0:Int)) q0 q1
  show (ps.map fun i=>xs.getD i.toNat .non).getD q.toNat .non = xs.getD (ps.getD q.toNat 0).toNat .non
  rw [e,List.getD_eq_getElem?_getD,List.getElem?_map,List.getElem?_eq_getElem h1]
  rfl
theorem leftR_all (xs:List V):leftR xs (upTo xs.length) = xs:=by
  unfold leftR
  rw [upTo_map]
  exact range_getD xs .non
theorem way_deep {ns:List Nd} (hd:depthOk 0 ns):∀ i,i ≤ ns.length → deepAfter 0 (ns.take i) = min ((way (ns.take i)).length:Int) 12:=by
  intro i
  induction i with
  | zero=>intro _; rw [List.take_zero]; rfl
  | succ i ih =>
    intro hi
    have hn:ns[i]? = some ns[i]:=List.getElem?_eq_getElem (by omega)
    have h:=ih (by omega)
    obtain ⟨_,d0,d12⟩:=depth12 hd hn
    have e:ns = ns.take i ++ (ns[i] :: ns.drop (i + 1)):=by
      have q:=List.take_append_drop (i + 1) ns
      rw [List.take_add_one,hn,List.append_assoc] at q
      exact q.symm
    have hd':=hd
    rw [e] at hd'
    obtain ⟨_,_,_,h3,_⟩:=depthOk_append.mp hd'
    rw [way_take hn,List.length_append,List.length_take,List.length_singleton]
    have e2:ns.take (i + 1) = ns.take i ++ [ns[i]]:=by rw [List.take_add_one,hn]; rfl
    rw [e2,deepAfter_append]
    show min (ns[i].2 + 1) 12 = _
    omega
theorem anc_full {ns:List Nd} (hd:depthOk 0 ns) {k:Nat} {n:Nd} (h:ns[k]? = some n):((anc ns k).length:Int) = n.2:=by
  have hk:=(List.getElem?_eq_some_iff.mp h).1
  obtain ⟨_,d0,d12⟩:=depth12 hd h
  have e:ns = ns.take k ++ (n :: ns.drop (k + 1)):=by
    have q:=List.take_append_drop (k + 1) ns
    rw [List.take_add_one,h,List.append_assoc] at q
    exact q.symm
  have hd':=hd
  rw [e] at hd'
  obtain ⟨_,_,_,h3,_⟩:=depthOk_append.mp hd'
  have w:=way_deep hd k (by omega)
  rw [anc_of h,List.length_take]
  omega
theorem leftN_all {ns:List Nd} (hd:depthOk 0 ns):leftN ns (upTo ns.length) = ns:=by
  unfold leftN
  rw [upTo_map]
  refine Eq.trans ?_ (range_getD ns ("",0))
  apply List.map_congr_left
  intro i hi
  have hi':=List.mem_range.mp hi
  have h:ns[i]? = some ns[i]:=List.getElem?_eq_getElem hi'
  unfold nodeL
  rw [Int.toNat_natCast]
  have ek:kept (upTo ns.length) (anc ns i) = anc ns i:=by
    unfold kept
    rw [List.filter_eq_self]
    intro j hj
    obtain ⟨j0,j1⟩:=anc_mem (ns:=ns) (k:=i) (by omega) j hj
    exact decide_eq_true (mem_upTo j0 (by omega))
  rw [ek,anc_full hd h,List.getD_eq_getElem?_getD,h]
  rfl
theorem leftN_both {ns:List Nd} {ps qs:List Int} (hd:depthOk 0 ns) (hp:placesOk 0 ns.length ps) (hq:placesOk 0 ps.length qs):leftN (leftN ns ps) qs = leftN ns (both ps qs):=by
  obtain ⟨a,b⟩:=placesOk_iff.mp hp
  have hbo:=both_ok hp hq
  unfold leftN
  show qs.map (nodeL (leftN ns ps) qs) = (qs.map fun q=>ps.getD q.toNat 0).map (nodeL ns (both ps qs))
  rw [List.map_map]
  apply List.map_congr_left
  intro q h
  obtain ⟨q0,q1⟩:=places_all hq q h
  obtain ⟨h1,e⟩:=getD_at (d:=(0:Int)) q0 q1
  have hk:ps[q.toNat]? = some ps[q.toNat]:=List.getElem?_eq_getElem h1
  show nodeL (leftN ns ps) qs q = nodeL ns (both ps qs) (ps.getD q.toNat 0)
  rw [e]
  have ew:=left_way hd hp hk
  have lL:(leftN ns ps).length = ps.length:=List.length_map _
  have e1:((leftN ns ps).getD q.toNat ("",0)).1 = (ns.getD (ps[q.toNat]).toNat ("",0)).1:=by
    unfold leftN
    rw [List.getD_eq_getElem?_getD,List.getElem?_map,hk]
    rfl
  unfold nodeL
  rw [e1]
  refine congrArg (fun n:Nat=>((ns.getD (ps[q.toNat]).toNat ("",0)).1,(n:Int))) ?_
  have e2:kept (both ps qs) (anc ns (ps[q.toNat]).toNat) = kept (both ps qs) (kept ps (anc ns (ps[q.toNat]).toNat)):=by
    unfold kept
    rw [List.filter_filter]
    apply List.filter_congr
    intro j _
    by_cases hj:j ∈ both ps qs
    · have:j ∈ ps:=by
        obtain ⟨q',hq',rfl⟩:=List.mem_map.mp hj
        obtain ⟨c0,c1⟩:=places_all hq q' hq'
        obtain ⟨h2,e3⟩:=getD_at (d:=(0:Int)) c0 c1
        rw [e3]
        exact List.getElem_mem h2
      simp [hj,this]
    · simp [hj]
  rw [e2,← ew]
  unfold kept
  rw [List.filter_map,List.length_map]
  refine congrArg List.length (List.filter_congr fun j hj=>?_)
  obtain ⟨j0,j1⟩:=anc_mem (ns:=leftN ns ps) (k:=q.toNat) (by omega) j hj
  have hjl:j < ps.length:=by omega
  obtain ⟨h2,e3⟩:=getD_at (d:=(0:Int)) j0 hjl
  show decide (j ∈ qs) = decide (ps.getD j.toNat 0 ∈ both ps qs)
  refine decide_eq_decide.mpr ⟨fun z=>List.mem_map.mpr ⟨j,z,rfl⟩,fun z=>?_⟩
  obtain ⟨q',hq',e4⟩:=List.mem_map.mp z
  obtain ⟨c0,c1⟩:=places_all hq q' hq'
  obtain ⟨h4,e5⟩:=getD_at (d:=(0:Int)) c0 c1
  rw [e3,e5] at e4
  have:q'.toNat = j.toNat:=by
    rcases Nat.lt_trichotomy q'.toNat j.toNat with l | l | l
    · have:=List.pairwise_iff_getElem.mp b _ _ h4 h2 l; omega
    · exact l
    · have:=List.pairwise_iff_getElem.mp b _ _ h2 h4 l; omega
  have:q' = j:=by omega
  rw [← this]
  exact hq'
theorem part_eq {n:Nat}:∀ {lo m:Int} {ps:List Int},placesOk lo m ps → ps = linesOf n ps ++ (colsOf n ps).map fun j=>j + (n:Int)
  | _,_,[],_=>rfl
  | lo,m,p :: r,h=>by
    obtain ⟨h1,h2,h3⟩:=h
    have ec:∀ qs:List Int,(colsOf n qs).map (fun j=>j + (n:Int)) = qs.filter fun i=>decide ((n:Int) ≤ i):=fun qs=>by
      unfold colsOf
      rw [List.map_map]
      have:((fun j=>j + (n:Int)) ∘ fun i=>i - (n:Int)) = (id:Int → Int):=by funext x; show x - (n:Int) + n = x; omega
      rw [this,List.map_id]
    have ih:=part_eq (n:=n) h3
    rw [ec] at ih ⊢
    unfold linesOf at ih ⊢
    by_cases hp:p < (n:Int)
    · rw [List.filter_cons,if_pos (decide_eq_true hp),List.filter_cons,if_neg (by simp; omega),List.cons_append,← ih]
    · have e1:r.filter (fun i=>decide (i < (n:Int))) = []:=by
        rw [List.filter_eq_nil_iff]
        intro x hx
        have:=(places_all h3 x hx).1
        simp; omega
      have e2:r.filter (fun i=>decide ((n:Int) ≤ i)) = r:=by
        rw [List.filter_eq_self]
        intro x hx
        have:=(places_all h3 x hx).1
        simp; omega
      rw [List.filter_cons,if_neg (by simp; omega),List.filter_cons,if_pos (decide_eq_true (by omega)),e1,e2]
      rfl
theorem at_line {n:Nat} {m:Int} {ps:List Int} (hp:placesOk 0 m ps) {q:Int} (h0:0 ≤ q) (h1:q < (linesOf n ps).length):ps.getD q.toNat 0 = (linesOf n ps).getD q.toNat 0:=by
  have h:q.toNat < (linesOf n ps).length:=by omega
  have e:=part_eq (n:=n) hp
  have g:ps[q.toNat]? = (linesOf n ps)[q.toNat]?:=by
    have:=congrArg (fun l:List Int=>l[q.toNat]?) e
    rw [show ps[q.toNat]? = _ from this]
    rw [ List.getElem?_append_left h]
  rw [List.getD_eq_getElem?_getD,List.getD_eq_getElem?_getD,g]
theorem at_col {n:Nat} {m:Int} {ps:List Int} (hp:placesOk 0 m ps) {q:Int} (h0:((linesOf n ps).length:Int) ≤ q) (h1:q < ps.length):ps.getD q.toNat 0 = (colsOf n ps).getD (q - (linesOf n ps).length).toNat 0 + n:=by
  have e:=part_eq (n:=n) hp
  have hl:=part_len (n:=n) ps
  have hc:(q - ((linesOf n ps).length:Int)).toNat < (colsOf n ps).length:=by omega
  have g:ps[q.toNat]? = some ((colsOf n ps)[(q - ((linesOf n ps).length:Int)).toNat] + (n:Int)):=by
    have:=congrArg (fun l:List Int=>l[q.toNat]?) e
    rw [show ps[q.toNat]? = _ from this]
    rw [ List.getElem?_append_right (by omega),List.getElem?_map,show q.toNat - (linesOf n ps).length = (q - ((linesOf n ps).length:Int)).toNat by omega,List.getElem?_eq_getElem hc]
    rfl
  rw [List.getD_eq_getElem?_getD,List.getD_eq_getElem?_getD,g,List.getElem?_eq_getElem hc]
  rfl
theorem cols_nonneg {n:Nat} {ps:List Int}:∀ i ∈ colsOf n ps,0 ≤ i:=fun i h=>by
  obtain ⟨j,hj,rfl⟩:=List.mem_map.mp h
  have:=of_decide_eq_true (List.mem_filter.mp hj).2
  omega
theorem line_iff {n:Nat} {m:Int} {ps:List Int} (hp:placesOk 0 m ps) {q:Int} (h0:0 ≤ q) (h1:q < ps.length):ps.getD q.toNat 0 < (n:Int) ↔ q < ((linesOf n ps).length:Int):=by
  constructor
  · intro z
    refine Decidable.byContradiction fun c=>?_
    have hl:=part_len (n:=n) ps
    have e:=at_col (n:=n) hp (by omega) h1
    obtain ⟨h2,e2⟩:=getD_at (ps:=colsOf n ps) (d:=(0:Int)) (q:=q - (linesOf n ps).length) (by omega) (by omega)
    have:=cols_nonneg (n:=n) (ps:=ps) _ (List.getElem_mem h2)
    omega
  · intro z
    rw [at_line hp h0 z]
    obtain ⟨h2,e2⟩:=getD_at (ps:=linesOf n ps) (d:=(0:Int)) h0 z
    rw [e2]
    exact (linesOf_all hp _ (List.getElem_mem h2)).2
theorem linesOf_both {n:Nat} {m:Int} {ps qs:List Int} (hp:placesOk 0 m ps) (hq:placesOk 0 ps.length qs):linesOf n (both ps qs) = both (linesOf n ps) (linesOf (linesOf n ps).length qs):=by
  show ((qs.map fun q=>ps.getD q.toNat 0).filter fun i=>decide (i < (n:Int))) = (qs.filter fun i=>decide (i < (((linesOf n ps).length:Nat):Int))).map fun q=>(linesOf n ps).getD q.toNat 0
  rw [List.filter_map]
  have e:qs.filter ((fun i=>decide (i < (n:Int))) ∘ fun q=>ps.getD q.toNat 0) = qs.filter fun i=>decide (i < (((linesOf n ps).length:Nat):Int)):=by
    apply List.filter_congr
    intro q h
    obtain ⟨q0,q1⟩:=places_all hq q h
    exact decide_eq_decide.mpr (line_iff hp q0 q1)
  rw [e]
  apply List.map_congr_left
  intro q h
  obtain ⟨ha,hb⟩:=List.mem_filter.mp h
  obtain ⟨q0,q1⟩:=places_all hq q ha
  exact at_line hp q0 (of_decide_eq_true hb)
theorem colsOf_both {n:Nat} {m:Int} {ps qs:List Int} (hp:placesOk 0 m ps) (hq:placesOk 0 ps.length qs):colsOf n (both ps qs) = both (colsOf n ps) (colsOf (linesOf n ps).length qs):=by
  show ((qs.map fun q=>ps.getD q.toNat 0).filter fun i=>decide ((n:Int) ≤ i)).map (fun i=>i - (n:Int)) = ((qs.filter fun i=>decide ((((linesOf n ps).length:Nat):Int) ≤ i)).map fun i=>i - (((linesOf n ps).length:Nat):Int)).map fun q=>(colsOf n ps).getD q.toNat 0
  rw [List.filter_map,List.map_map,List.map_map]
  have e:qs.filter ((fun i=>decide ((n:Int) ≤ i)) ∘ fun q=>ps.getD q.toNat 0) = qs.filter fun i=>decide ((((linesOf n ps).length:Nat):Int) ≤ i):=by
    apply List.filter_congr
    intro q h
    obtain ⟨q0,q1⟩:=places_all hq q h
    have:=line_iff (n:=n) hp q0 q1
    refine decide_eq_decide.mpr ?_
    show (n:Int) ≤ ps.getD q.toNat 0 ↔ _
    omega
  rw [e]
  apply List.map_congr_left
  intro q h
  obtain ⟨ha,hb⟩:=List.mem_filter.mp h
  obtain ⟨q0,q1⟩:=places_all hq q ha
  have:=at_col (n:=n) hp (of_decide_eq_true hb) q1
  show ps.getD q.toNat 0 - (n:Int) = (colsOf n ps).getD (q - (((linesOf n ps).length:Nat):Int)).toNat 0
  omega
theorem leftT_len (ls:List (List V)) (ps:List Int):(leftT ls ps).length = (linesOf ls.length ps).length:=List.length_map _
theorem leftT_both {ls:List (List V)} {m:Int} {ps qs:List Int} (hp:placesOk 0 m ps) (hq:placesOk 0 ps.length qs):leftT (leftT ls ps) qs = leftT ls (both ps qs) ∧ (colsOf (leftT ls ps).length qs).length = (colsOf ls.length (both ps qs)).length:=by
  have hl:=part_len (n:=ls.length) ps
  have hq':placesOk 0 (((linesOf ls.length ps).length:Int) + ((colsOf ls.length ps).length:Int)) qs:=by
    rw [show ((linesOf ls.length ps).length:Int) + ((colsOf ls.length ps).length:Int) = ps.length by omega]; exact hq
  refine ⟨?_,by rw [leftT_len,colsOf_both hp hq,both_len]⟩
  unfold leftT
  rw [linesOf_both hp hq,colsOf_both hp hq,List.length_map]
  unfold both
  rw [List.map_map]
  apply List.map_congr_left
  intro i hi
  obtain ⟨i0,i1⟩:=linesOf_all hq' i hi
  obtain ⟨h1,e1⟩:=getD_at (ps:=linesOf ls.length ps) (d:=(0:Int)) i0 i1
  show _ = List.map _ (List.map _ _)
  rw [List.map_map]
  apply List.map_congr_left
  intro j hj
  obtain ⟨j0,j1⟩:=colsOf_all hq' j hj
  obtain ⟨h2,e2⟩:=getD_at (ps:=colsOf ls.length ps) (d:=(0:Int)) j0 j1
  show ((List.map (fun i=>(colsOf ls.length ps).map fun j=>(ls.getD i.toNat []).getD j.toNat .non) (linesOf ls.length ps)).getD i.toNat []).getD j.toNat .non = (ls.getD ((linesOf ls.length ps).getD i.toNat 0).toNat []).getD ((colsOf ls.length ps).getD j.toNat 0).toNat .non
  rw [e1,e2,List.getD_eq_getElem?_getD (l:=List.map _ (linesOf ls.length ps)),List.getElem?_map,List.getElem?_eq_getElem h1]
  show (List.map (fun j=>(ls.getD (linesOf ls.length ps)[i.toNat].toNat []).getD j.toNat V.non) (colsOf ls.length ps)).getD j.toNat V.non = _
  rw [List.getD_eq_getElem?_getD,List.getElem?_map,List.getElem?_eq_getElem h2]
  rfl
theorem upTo_add (n w:Nat):upTo (n + w) = upTo n ++ (upTo w).map fun j=>j + (n:Int):=by
  unfold upTo
  rw [List.range_add,List.map_append,List.map_map,List.map_map]
  congr 1
  apply List.map_congr_left
  intro i _
  show (0:Int) + ((n + i:Nat):Int) = 0 + (i:Int) + (n:Int)
  omega
theorem lines_upTo (n w:Nat):linesOf n (upTo (n + w)) = upTo n:=by
  unfold linesOf
  rw [upTo_add,List.filter_append]
  have e1:(upTo n).filter (fun i=>decide (i < (n:Int))) = upTo n:=by
    rw [List.filter_eq_self]
    intro x hx
    exact decide_eq_true (places_all (upTo_ok n) x hx).2
  have e2:((upTo w).map fun j=>j + (n:Int)).filter (fun i=>decide (i < (n:Int))) = []:=by
    rw [List.filter_eq_nil_iff]
    intro x hx
    obtain ⟨j,hj,rfl⟩:=List.mem_map.mp hx
    have:=(places_all (upTo_ok w) j hj).1
    simp; omega
  rw [e1,e2,List.append_nil]
theorem cols_upTo (n w:Nat):colsOf n (upTo (n + w)) = upTo w:=by
  unfold colsOf
  rw [upTo_add,List.filter_append]
  have e1:(upTo n).filter (fun i=>decide ((n:Int) ≤ i)) = []:=by
    rw [List.filter_eq_nil_iff]
    intro x hx
    have:=(places_all (upTo_ok n) x hx).2
    simp; omega
  have e2:((upTo w).map fun j=>j + (n:Int)).filter (fun i=>decide ((n:Int) ≤ i)) = (upTo w).map fun j=>j + (n:Int):=by
    rw [List.filter_eq_self]
    intro x hx
    obtain ⟨j,hj,rfl⟩:=List.mem_map.mp hx
    have:=(places_all (upTo_ok w) j hj).1
    simp; omega
  rw [e1,e2,List.nil_append,List.map_map]
  have:((fun i=>i - (n:Int)) ∘ fun j=>j + (n:Int)) = (id:Int → Int):=by funext x; show x + (n:Int) - n = x; omega
  rw [this,List.map_id]
theorem leftT_all {ls:List (List V)} {w:Nat} (h:∀ l ∈ ls,l.length = w):leftT ls (upTo (ls.length + w)) = ls:=by
  unfold leftT
  rw [lines_upTo,cols_upTo,upTo_map]
  refine Eq.trans ?_ (range_getD ls [])
  apply List.map_congr_left
  intro i hi
  have hi':=List.mem_range.mp hi
  rw [Int.toNat_natCast,upTo_map]
  have e:ls.getD i [] = ls[i]:=by rw [List.getD_eq_getElem?_getD,List.getElem?_eq_getElem hi']; rfl
  have hw:=h _ (List.getElem_mem hi')
  rw [e,← hw]
  exact range_getD ls[i] .non
end SH
namespace L2
open PySem PySem.Spec PyProof.Rows
section
variable {X:Cx}
def rCountT (K:PySem.W.Frag):V → List V → Hp → VK → Prop:=fun x vs H Q=>∃ t xs y,x = .ref t ∧ vs = [y] ∧ SqT K H t xs ∧ flatV y = true ∧ xs.all flatV = true ∧ Q (.int ((xs.countP fun z=>eqV z y:Nat):Int)) H
end
def TupF (H:Hp) (t:Addr) (xs:List V):Prop:=∃ o:Obj,H t = some (.frz o (.tup xs)) ∧ o.cls = .type "tuple" ∧ o.dict = none
theorem TupF.sq {K:PySem.W.Frag} {H:Hp} {t:Addr} {xs:List V} (h:TupF H t xs):SqT K H t xs:=let ⟨o,e,_⟩:=h; .inl (.inr ⟨o,e⟩)
theorem TupF.keep {H H':Hp} {t:Addr} {xs:List V} (s:∀ b o,(∀ zs,o ≠ HO.lst zs) → H b = some o → H' b = some o) (h:TupF H t xs):TupF H' t xs:=let ⟨o,e,r⟩:=h; ⟨o,s _ (.frz o _) (fun _ z=>nomatch z) e,r⟩
theorem TupF.to {H H':Hp} {t:Addr} {xs:List V} (h:TupF H t xs) (s:∀ o,H t = some (.frz o (.tup xs)) → H' t = some (.frz o (.tup xs))):TupF H' t xs:=let ⟨o,e,r⟩:=h; ⟨o,s o e,r⟩
section
variable {X:Cx}
def rTupF (K:PySem.W.Frag):List V → Hp → VK → Prop:=fun xs H Q=>∃ p ys,xs = [.ref p] ∧ SqL K H p ys ∧ ∀ l (o:Obj),H l = none → o.cls = .type "tuple" → o.dict = none → Q (.ref l) (upd H l (.frz o (.tup ys)))
theorem call_tupF:CallR X (.type "tuple") (rTupF X.K):=by
  intro pins s σ H xs us Q I r h
  obtain ⟨p,ys,rfl,hq,q⟩:=h
  obtain ⟨u,rfl,rx⟩:=vals1 r
  cases rx
  obtain ⟨its,r',pl,hz⟩:=I.list hq
  have hlen:=r'.length
  refine call_tuple_list pl.isList (fun h' kp=>?_) (by simp only [List.size_toArray] <;> omega)
  have I1:Inv X pins σ H { s with heap:=h' }:=I.kept (t':=s.toks) kp
  have I2:Inv X pins σ (upd H h'.objs.size (.frz { cls:=.type "tuple",data:=.seq its.toArray } (.tup ys))) { s with heap:=h'.push { cls:=.type "tuple",data:=.seq its.toArray } } :=
    I1.laid (t':=s.toks) (fun b o e=>Heap.get?_push_of_some _ e) (Nat.le_refl _) ⟨Heap.get?_push_size _ rfl,hz,its,r',IsTup.new _ _⟩
  exact ⟨.ref h'.objs.size,_,I2,rfl,q _ _ (I1.hok.fresh (Nat.le_refl _)) rfl rfl⟩
def tCountF (K:PySem.W.Frag) (to:TE) (t:TA):TE:=fun σ H Q=>to σ H fun x H1=>∃ p zs,x = .ref p ∧ TupF H1 p zs ∧ t σ H1 fun xs H2=>rCountT K x xs H2 Q
end
theorem pg_two {X:Cx} {i j:Nat} {x y:Str} {p1 p2 pos:Pos} {kk:Nat} (hc:X.calm = true) (hN:X.N.Nodup) (hi:X.N[i]? = some x) (hj:X.N[j]? = some y) (hx:Loc X.env.scope x) (hy:Loc X.env.scope y)
    (hfx:X.fn x = true ∨ X.env.scope.names.lookup x = some .local:=by first | exact .inl rfl | exact .inr rfl | assumption) (hfy:X.fn y = true ∨ X.env.scope.names.lookup y = some .local:=by first | exact .inl rfl | exact .inr rfl | assumption) :
    PG X (.Tuple [.Name x p1,.Name y p2] kk pos) (gTup X.K 2 (gCons (gName i) (gCons (gName j) gNil))):=pg_tup hc (pgs_cons (pg_name hN hi hx hfx) (pgs_cons (pg_name hN hj hy hfy) pgs_nil))
theorem comp_enumT {K:PySem.W.Frag} {a:Addr} {xs:List V} {x0 x1:Str} {ix:List Nat} {ti:TT} {te:TE} {Q:VK} {σ:St} {H:Hp} (Pv:Nat → List V → Hp → Prop) (h0:Pv 0 [] H) (hl:∀ i ys H,i ≤ xs.length → Pv i ys H → SqT K H a xs)
    (hs:∀ i x ys H T (R:List V → Hp → Prop),xs[i]? = some x → Pv i ys H → H T = none → (∀ ys' H',Pv (i + 1) ys' H' → R ys' H') → ti (some (.int (i:Nat)) :: some x :: ix.map fun j=>(σ[j]?).join) (upd H T (.tup [.int (i:Nat),x])) fun b H3=>if b = true then te (some (.int (i:Nat)) :: some x :: ix.map fun j=>(σ[j]?).join) H3 fun y H4=>ys.length < sizeLine ∧ R (ys ++ [y]) H4 else R ys H3)
    (hd:∀ ys H,Pv xs.length ys H → ys.length ≤ sizeLine ∧ ∀ D,H D = none → Q (.ref D) (upd H D (.lst ys))) :
    ∃ W:Nat → Nat → List V → St → Hp → Prop,(∃ m,W 0 m [] (capS σ [x0,x1] ix) H) ∧ ∀ i m ys σ' H,W i m ys σ' H →
      ((Itte K a).stop i H ∧ ys.length ≤ sizeLine ∧ ∀ D,H D = none → Q (.ref D) (upd H D (.lst ys))) ∨
      ((Itte K a).go i H ∧ ∀ x H',(Itte K a).yld i H x H' → gTup K 2 (gCons (gName 0) (gCons (gName 1) gNil)) x σ' H' fun σ2 H2=>ti σ2 H2 fun b H3=>if b = true then te σ2 H3 fun y H4=>ys.length < sizeLine ∧ ∃ m',m' < m ∧ W (i + 1) m' (ys ++ [y]) σ2 H4 else ∃ m',m' < m ∧ W (i + 1) m' ys σ2 H3):=by
  refine ⟨fun i m ys σ' H=>m = xs.length - i ∧ i ≤ xs.length ∧ (∃ o o',σ' = o :: o' :: ix.map fun j=>(σ[j]?).join) ∧ Pv i ys H,⟨xs.length,by simp,Nat.zero_le _,⟨none,none,rfl⟩,h0⟩,?_⟩
  rintro i m ys σ' H ⟨rfl,hi,⟨o,o',rfl⟩,p⟩
  have q:=hl i ys H hi p
  by_cases hlt:i < xs.length
  · refine .inr ⟨⟨xs,xs[i],q,by simp [hlt]⟩,fun v H' y=>?_⟩
    obtain ⟨T,x,hT,rfl,y,rfl⟩:=y
    refine ⟨T,[.int i,x],rfl,SqT.of upd_same,rfl,.int i,[x],rfl,x,[],rfl,rfl,?_⟩
    exact hs i x ys H T (fun ys' H4=>∃ m',m' < xs.length - i ∧ m' = xs.length - (i + 1) ∧ i + 1 ≤ xs.length ∧ (∃ o o',(some (.int (i:Nat)) :: some x :: ix.map fun j=>(σ[j]?).join) = o :: o' :: ix.map fun j=>(σ[j]?).join) ∧ Pv (i + 1) ys' H4) (y xs q) p hT
      fun ys' H4 z=>⟨xs.length - (i + 1),by omega,rfl,hlt,⟨_,_,rfl⟩,z⟩
  · have e:i = xs.length:=by omega
    subst e
    exact .inl ⟨⟨xs,q,rfl⟩,hd ys H p⟩
theorem tcomp_enumT {K:PySem.W.Frag} {a:Addr} {xs:List V} {x0 x1:Str} {ix:List Nat} {wi:TI} {ti:TT} {te:TE} {Q:VK} {σ:St} {H H1:Hp} (hi:∀ R:It → Hp → Prop,R (Itte K a) H1 → wi σ H R) (Pv:Nat → List V → Hp → Prop) (h0:Pv 0 [] H1) (hl:∀ i ys H,i ≤ xs.length → Pv i ys H → SqT K H a xs)
    (hs:∀ i x ys H T (R:List V → Hp → Prop),xs[i]? = some x → Pv i ys H → H T = none → (∀ ys' H',Pv (i + 1) ys' H' → R ys' H') → ti (some (.int (i:Nat)) :: some x :: ix.map fun j=>(σ[j]?).join) (upd H T (.tup [.int (i:Nat),x])) fun b H3=>if b = true then te (some (.int (i:Nat)) :: some x :: ix.map fun j=>(σ[j]?).join) H3 fun y H4=>ys.length < sizeLine ∧ R (ys ++ [y]) H4 else R ys H3)
    (hd:∀ ys H,Pv xs.length ys H → ys.length ≤ sizeLine ∧ ∀ D,H D = none → Q (.ref D) (upd H D (.lst ys))):tComp [x0,x1] ix wi (gTup K 2 (gCons (gName 0) (gCons (gName 1) gNil))) ti te σ H Q:=hi _ (comp_enumT Pv h0 hl hs hd)
end L2
namespace L2
open PySem PySem.Spec PyProof.Rows
theorem comp_tup {K:PySem.W.Frag} {a:Addr} {xs:List V} {x0:Str} {ix:List Nat} {ti:TT} {te:TE} {Q:VK} {σ:St} {H:Hp} (Pv:Nat → List V → Hp → Prop) (h0:Pv 0 [] H) (hl:∀ i ys H,i ≤ xs.length → Pv i ys H → SqT K H a xs)
    (hs:∀ i x ys H (R:List V → Hp → Prop),xs[i]? = some x → Pv i ys H → (∀ ys' H',Pv (i + 1) ys' H' → R ys' H') → ti (some x :: ix.map fun j=>(σ[j]?).join) H fun b H3=>if b = true then te (some x :: ix.map fun j=>(σ[j]?).join) H3 fun y H4=>ys.length < sizeLine ∧ R (ys ++ [y]) H4 else R ys H3)
    (hd:∀ ys H,Pv xs.length ys H → ys.length ≤ sizeLine ∧ ∀ D,H D = none → Q (.ref D) (upd H D (.lst ys))) :
    ∃ W:Nat → Nat → List V → St → Hp → Prop,(∃ m,W 0 m [] (capS σ [x0] ix) H) ∧ ∀ i m ys σ' H,W i m ys σ' H →
      ((Itt K a).stop i H ∧ ys.length ≤ sizeLine ∧ ∀ D,H D = none → Q (.ref D) (upd H D (.lst ys))) ∨
      ((Itt K a).go i H ∧ ∀ x H',(Itt K a).yld i H x H' → gName 0 x σ' H' fun σ2 H2=>ti σ2 H2 fun b H3=>if b = true then te σ2 H3 fun y H4=>ys.length < sizeLine ∧ ∃ m',m' < m ∧ W (i + 1) m' (ys ++ [y]) σ2 H4 else ∃ m',m' < m ∧ W (i + 1) m' ys σ2 H3):=by
  refine ⟨fun i m ys σ' H=>m = xs.length - i ∧ i ≤ xs.length ∧ (∃ o,σ' = o :: ix.map fun j=>(σ[j]?).join) ∧ Pv i ys H,⟨xs.length,by simp,Nat.zero_le _,⟨none,rfl⟩,h0⟩,?_⟩
  rintro i m ys σ' H ⟨rfl,hi,⟨o,rfl⟩,p⟩
  have q:=hl i ys H hi p
  by_cases hlt:i < xs.length
  · refine .inr ⟨⟨xs,xs[i],q,by simp [hlt]⟩,fun x H' y=>?_⟩
    obtain ⟨e,y⟩:=y
    subst e
    exact hs i x ys _ (fun ys' H4=>∃ m',m' < xs.length - i ∧ m' = xs.length - (i + 1) ∧ i + 1 ≤ xs.length ∧ (∃ o',some x :: (ix.map fun j=>(σ[j]?).join) = o' :: ix.map fun j=>(σ[j]?).join) ∧ Pv (i + 1) ys' H4) (y xs q) p
      fun ys' H4 z=>⟨xs.length - (i + 1),by omega,rfl,hlt,⟨_,rfl⟩,z⟩
  · have e:i = xs.length:=by omega
    subst e
    exact .inl ⟨⟨xs,q,Nat.le_refl _⟩,hd ys H p⟩
theorem tcomp_tup {K:PySem.W.Frag} {a:Addr} {xs:List V} {x0:Str} {ix:List Nat} {wi:TI} {ti:TT} {te:TE} {Q:VK} {σ:St} {H H1:Hp} (hi:∀ R:It → Hp → Prop,R (Itt K a) H1 → wi σ H R) (Pv:Nat → List V → Hp → Prop) (h0:Pv 0 [] H1) (hl:∀ i ys H,i ≤ xs.length → Pv i ys H → SqT K H a xs)
    (hs:∀ i x ys H (R:List V → Hp → Prop),xs[i]? = some x → Pv i ys H → (∀ ys' H',Pv (i + 1) ys' H' → R ys' H') → ti (some x :: ix.map fun j=>(σ[j]?).join) H fun b H3=>if b = true then te (some x :: ix.map fun j=>(σ[j]?).join) H3 fun y H4=>ys.length < sizeLine ∧ R (ys ++ [y]) H4 else R ys H3)
    (hd:∀ ys H,Pv xs.length ys H → ys.length ≤ sizeLine ∧ ∀ D,H D = none → Q (.ref D) (upd H D (.lst ys))):tComp [x0] ix wi (gName 0) ti te σ H Q:=hi _ (comp_tup Pv h0 hl hs hd)
end L2
namespace SH
open PySem L2
def idxs {α:Type} (P:α → Bool):Nat → List α → List Int
  | _,[]=>[]
  | k,x :: xs=>(if P x then [(k:Int)] else []) ++ idxs P (k + 1) xs
theorem idxs_append {α:Type} (P:α → Bool):∀ (xs ys:List α) (k:Nat),idxs P k (xs ++ ys) = idxs P k xs ++ idxs P (k + xs.length) ys
  | [],ys,k=>rfl
  | x :: xs,ys,k=>by
    show (if P x then [(k:Int)] else []) ++ idxs P (k + 1) (xs ++ ys) = ((if P x then [(k:Int)] else []) ++ idxs P (k + 1) xs) ++ idxs P (k + (x :: xs).length) ys
    rw [idxs_append P xs ys (k + 1),List.append_assoc,List.length_cons,show k + 1 + xs.length = k + (xs.length + 1) by omega]
theorem idxs_take {α:Type} {P:α → Bool} {xs:List α} {i:Nat} {x:α} (h:xs[i]? = some x):idxs P 0 (xs.take (i + 1)) = idxs P 0 (xs.take i) ++ if P x then [(i:Int)] else []:=by
  have hi:=(List.getElem?_eq_some_iff.mp h).1
  rw [List.take_add_one,h,idxs_append,List.length_take,Nat.min_eq_left (by omega)]
  show _ ++ ((if P x then [((0 + i:Nat):Int)] else []) ++ []) = _
  rw [List.append_nil,Nat.zero_add]
theorem idxs_len {α:Type} (P:α → Bool):∀ (xs:List α) (k:Nat),(idxs P k xs).length = xs.countP P
  | [],_=>rfl
  | x :: xs,k=>by
    show ((if P x then [(k:Int)] else []) ++ idxs P (k + 1) xs).length = _
    rw [List.length_append,idxs_len P xs (k + 1),List.countP_cons]
    cases P x <;> simp <;> omega
theorem idxs_le {α:Type} (P:α → Bool) (xs:List α) (k:Nat):(idxs P k xs).length ≤ xs.length:=by rw [idxs_len]; exact List.countP_le_length
theorem _root_.L2.TupF.same {H H':Hp} {t:Addr} {xs:List V} (s:Same H H') (h:TupF H t xs):TupF H' t xs:=let ⟨o,e,r⟩:=h; ⟨o,s _ _ e,r⟩
theorem cut_init {xs:List V} (h:0 < xs.length):cutV xs none (some (-1)) = xs.take (xs.length - 1):=by
  unfold cutV HT.sIx
  simp only [List.drop_zero]
  rw [if_pos (by decide),show ((-1:Int) + (xs.length:Int)).toNat - 0 = xs.length - 1 by omega]
def isM (m:Str) (x:V):Bool:=eqV x (.str m)
end SH
namespace PySem
open Sem (wp)
structure ZipAway (z TI TO i1 i2:Addr) (f1 f2:List Addr):Prop where
  zt:TO ≠ z
  kz:TI ≠ z
  kt:TI ≠ TO
  k1:TI ≠ i1
  k2:TI ≠ i2
  z1:z ∉ f1
  z2:z ∉ f2
  t1:TO ∉ f1
  t2:TO ∉ f2
  m1:i1 ∈ f1
  m2:i2 ∈ f2
  o1:i1 ∉ f2
  o2:i2 ∉ f1
section
variable {prog:Program} {w:World} {A:Around} {E:Value → Shared → Prop} {s:Shared} {z TI TO i1 i2:Addr} {f1 f2:List Addr} {n1 n2:Nat} {P1 P2:Nat → Value → Prop} {S1 S2:Nat → Heap → Prop}
theorem keepBut {b:Addr} {h h':Heap} (e:Heap.SameBut b h h') {c:Addr} {o:Obj} (hc:c ≠ b) (g:h.get? c = some o):h'.get? c = some o:=e.extBut _ _ hc g
theorem Draws.stay {it:Addr} {fp:List Addr} {n i:Nat} {P:Nat → Value → Prop} {St:Nat → Heap → Prop} {h h':Heap} {b:Addr} (D:Draws prog w A it fp n P St) (st:St i h) (hb:b ∉ fp) (e:Heap.SameBut b h h'):St i h' :=
  D.frame i h h' st fun c hc o g=>keepBut e (fun q=>hb (q ▸ hc)) g
theorem zipD_item {i:Nat} {a b:Value} {Q:Value → Shared → Prop} (W:ZipAway z TI TO i1 i2 f1 f2) (D1:Draws prog w A i1 f1 n1 P1 S1) (D2:Draws prog w A i2 f2 n2 P2 S2) (l1:i < n1) (l2:i < n2)
    (hz:IsZip s.heap z TI TO .none) (hI:IsPair s.heap TI (.ref i1) (.ref i2)) (hO:IsPair s.heap TO a b) (st1:S1 i s.heap) (st2:S2 i s.heap)
    (q:∀ h' tk x y,P1 i x → P2 i y → IsZip h' z TI TO (rawInt s.heap.objs.size) → IsPair h' TO x y → S1 (i + 1) h' → S2 (i + 1) h' → IsPair h' s.heap.objs.size x y → (∀ c o,c ≠ z → c ≠ TO → c ≠ i1 → c ≠ i2 → s.heap.get? c = some o → h'.get? c = some o) → Q (.ref s.heap.objs.size) { s with heap:=h',toks:=tk }) :
    wpAny (model prog w) A (Builtin.«zip.__next__» ⟨[.ref z],[]⟩) (fun fin s'=>∃ v,fin = .done (.ret v) ∧ Q v s') E s:=by
  refine wpAny_bind (m:=field (.ref z) 2) (wpAny_field hz rfl (x:=.bool false) rfl (wpAny_bind (m:=field (.ref z) 3) (wpAny_field hz rfl (x:=.ref TI) rfl (wpAny_bind (wpAny_seqItems hI rfl ?_)))))
  refine wpAny_bind (m:=Builtin.SmallTypes.ownedTupleIsFree (.ref z)) (wpAny_bind (wpAny_field hz rfl (x:=.none) rfl (wpAny_pure ?_)))
  simp only [if_true]
  refine wpAny_bind (wpAny_rule (wpAny_bind (wpAny_field hz rfl (x:=.ref TO) rfl (wpAny_bind (wpAny_setField_rec hz (by simp) fun g1 hz1 e1=>wpAny_bind ?_)))))
  replace hz1:IsZip g1 z TI TO .ellipsis:=hz1
  simp only [List.zipIdx_cons,List.zipIdx_nil,List.forIn_cons,List.forIn_nil]
  refine wpAny_bind (wpAny_bind (wpAny_onRaise (wpAny_bind (m:=Builtin.SmallTypes.nextOf (.ref i1)) (D1.item i _ _ _ l1 (D1.stay st1 W.z1 e1) fun x g2 tk2 hx st1' e2=>wpAny_pure ?_))))
  have ne1:i1 ≠ z:=fun q=>W.z1 (q ▸ W.m1)
  have ne2:i2 ≠ z:=fun q=>W.z2 (q ▸ W.m2)
  have nt1:TO ≠ i1:=fun q=>W.t1 (q ▸ W.m1)
  have nt2:TO ≠ i2:=fun q=>W.t2 (q ▸ W.m2)
  have hO2:IsPair g2 TO a b:=keepBut e2 nt1 (keepBut e1 W.zt hO)
  refine wpAny_bind (wpAny_seqItems (s:={ s with heap:=g2,toks:=tk2 }) hO2 rfl (wpAny_bind (wpAny_updateSeq_pair (s:={ s with heap:=g2,toks:=tk2 }) hO2 fun g3 hO3 e3=>wpAny_bind (wpAny_letGo (wpAny_pure ?_)))))
  replace hO3:IsPair g3 TO x b:=hO3
  refine wpAny_bind (wpAny_bind (wpAny_onRaise (wpAny_bind (m:=Builtin.SmallTypes.nextOf (.ref i2)) (D2.item i _ _ _ l2 (D2.stay (D2.stay (D2.stay st2 W.z2 e1) W.o1 e2) W.t2 e3) fun y g4 tk4 hy st2' e4=>wpAny_pure ?_))))
  have hO4:IsPair g4 TO x b:=keepBut e4 nt2 hO3
  refine wpAny_bind (wpAny_seqItems (s:={ s with heap:=g4,toks:=tk4 }) hO4 rfl (wpAny_bind (wpAny_updateSeq_pair (s:={ s with heap:=g4,toks:=tk4 }) hO4 fun g5 hO5 e5=>wpAny_bind (wpAny_letGo (wpAny_pure (wpAny_pure ?_))))))
  replace hO5:IsPair g5 TO x y:=hO5
  have sz:g5.objs.size = s.heap.objs.size:=by rw [e5.1,e4.1,e3.1,e2.1,e1.1]
  have hz5:IsZip g5 z TI TO .ellipsis:=keepBut e5 (Ne.symm W.zt) (keepBut e4 (Ne.symm ne2) (keepBut e3 (Ne.symm W.zt) (keepBut e2 (Ne.symm ne1) hz1)))
  have s15:S1 (i + 1) g5:=D1.stay (D1.stay (D1.stay st1' W.t1 e3) W.o2 e4) W.t1 e5
  have s25:S2 (i + 1) g5:=D2.stay st2' W.t2 e5
  have k5:∀ c o,c ≠ z → c ≠ TO → c ≠ i1 → c ≠ i2 → s.heap.get? c = some o → g5.get? c = some o:=fun c o c1 c2 c3 c4 g=>keepBut e5 c2 (keepBut e4 c4 (keepBut e3 c2 (keepBut e2 c3 (keepBut e1 c1 g))))
  refine wpAny_bind (wpAny_seqItems (s:={ s with heap:=g5,toks:=tk4 }) hO5 rfl (wpAny_bind (wpAny_newTuple ?_)))
  refine wpAny_bind (m:=Builtin.SmallTypes.ownedTupleHandOut (.ref z) (.ref g5.objs.size)) ?_
  have ltz:z < g5.objs.size:=Heap.lt_size hz5
  refine wpAny_bind (wpAny_setField_rec (s:={ s with heap:=g5.push { cls:=.type "tuple",data:=.seq #[x,y] },toks:=tk4 }) (Heap.get?_push_of_some _ hz5) (by simp) fun g7 hz7 e7=>?_)
  replace hz7:IsZip g7 z TI TO (rawInt g5.objs.size):=hz7
  refine wpAny_setField_rec hz7 (by simp) fun g8 hz8 e8=>?_
  replace hz8:IsZip g8 z TI TO (rawInt g5.objs.size):=hz8
  have up:∀ c o,c ≠ z → g5.get? c = some o → g8.get? c = some o:=fun c o c1 g=>keepBut e8 c1 (keepBut e7 c1 (Heap.get?_push_of_some _ g))
  have hT:IsPair g8 g5.objs.size x y:=keepBut e8 (Nat.ne_of_gt ltz) (keepBut e7 (Nat.ne_of_gt ltz) (Heap.get?_push_size _ rfl))
  rw [sz] at hz8 hT
  refine wpAny_pure ⟨_,rfl,?_⟩
  rw [sz]
  exact q g8 tk4 x y hx hy hz8 (up _ _ W.zt hO5) (D1.frame _ _ _ s15 fun c hc o g=>up c o (fun q=>W.z1 (q ▸ hc)) g) (D2.frame _ _ _ s25 fun c hc o g=>up c o (fun q=>W.z2 (q ▸ hc)) g) hT fun c o c1 c2 c3 c4 g=>up c o c1 (k5 c o c1 c2 c3 c4 g)
theorem zipD_end {i:Nat} {a b:Value} {Q:Fin → Shared → Prop} (W:ZipAway z TI TO i1 i2 f1 f2) (D1:Draws prog w A i1 f1 n1 P1 S1) (D2:Draws prog w A i2 f2 n2 P2 S2) (he:i = n1 ∨ (i < n1 ∧ i = n2))
    (hz:IsZip s.heap z TI TO .none) (hI:IsPair s.heap TI (.ref i1) (.ref i2)) (hO:IsPair s.heap TO a b) (st1:S1 i s.heap) (st2:S2 i s.heap)
    (q:∀ h' tk e,(∀ c o,c ≠ z → c ≠ TO → c ≠ i1 → c ≠ i2 → s.heap.get? c = some o → h'.get? c = some o) → (∃ o,h'.get? e = some o ∧ o.cls = .type "StopIteration") → E (.ref e) { s with heap:=h',toks:=tk }) :
    wpAny (model prog w) A (Builtin.«zip.__next__» ⟨[.ref z],[]⟩) Q E s:=by
  have ne1:i1 ≠ z:=fun q=>W.z1 (q ▸ W.m1)
  have ne2:i2 ≠ z:=fun q=>W.z2 (q ▸ W.m2)
  have nt1:TO ≠ i1:=fun q=>W.t1 (q ▸ W.m1)
  refine wpAny_bind (m:=field (.ref z) 2) (wpAny_field hz rfl (x:=.bool false) rfl (wpAny_bind (m:=field (.ref z) 3) (wpAny_field hz rfl (x:=.ref TI) rfl (wpAny_bind (wpAny_seqItems hI rfl ?_)))))
  refine wpAny_bind (m:=Builtin.SmallTypes.ownedTupleIsFree (.ref z)) (wpAny_bind (wpAny_field hz rfl (x:=.none) rfl (wpAny_pure ?_)))
  simp only [if_true]
  refine wpAny_bind (wpAny_rule (wpAny_bind (wpAny_field hz rfl (x:=.ref TO) rfl (wpAny_bind (wpAny_setField_rec hz (by simp) fun g1 hz1 e1=>wpAny_bind ?_)))))
  replace hz1:IsZip g1 z TI TO .ellipsis:=hz1
  simp only [List.zipIdx_cons,List.zipIdx_nil,List.forIn_cons,List.forIn_nil]
  have away:∀ {g:Heap} {e:Addr},IsZip g z TI TO .ellipsis → (∃ o,g.get? e = some o ∧ o.cls = .type "StopIteration") → e ≠ z:=fun hg ⟨o,ho,hc⟩ x=>by
    subst x
    rw [hg] at ho
    cases ho
    simp at hc
  refine wpAny_bind (wpAny_bind (wpAny_onRaise ?_))
  refine wpAny_bind (m:=Builtin.SmallTypes.nextOf (.ref i1)) ?_
  rcases he with rfl | ⟨lt,rfl⟩
  · refine D1.done _ _ _ (D1.stay st1 W.z1 e1) fun g2 e x2 hs=>?_
    have hz2:IsZip g2 z TI TO .ellipsis:=x2 _ _ (Ne.symm ne1) hz1
    have hez:=away hz2 hs
    obtain ⟨o,ho,hc⟩:=hs
    exact wpAny_setField_rec hz2 (by simp) fun g3 _ e3=>q g3 s.toks e (fun c o c1 _ c3 _ g=>keepBut e3 c1 (x2 _ _ c3 (keepBut e1 c1 g))) ⟨o,keepBut e3 hez ho,hc⟩
  · refine D1.item i _ _ _ lt (D1.stay st1 W.z1 e1) fun x g2 tk2 hx st1' e2=>wpAny_pure ?_
    have hO2:IsPair g2 TO a b:=keepBut e2 nt1 (keepBut e1 W.zt hO)
    refine wpAny_bind (wpAny_seqItems (s:={ s with heap:=g2,toks:=tk2 }) hO2 rfl (wpAny_bind (wpAny_updateSeq_pair (s:={ s with heap:=g2,toks:=tk2 }) hO2 fun g3 hO3 e3=>wpAny_bind (wpAny_letGo (wpAny_pure ?_)))))
    refine wpAny_bind (wpAny_bind (wpAny_onRaise ?_))
    refine wpAny_bind (m:=Builtin.SmallTypes.nextOf (.ref i2)) ?_
    refine D2.done _ _ _ (D2.stay (D2.stay (D2.stay st2 W.z2 e1) W.o1 e2) W.t2 e3) fun g4 e x4 hs=>?_
    have hz4:IsZip g4 z TI TO .ellipsis:=x4 _ _ (Ne.symm ne2) (keepBut e3 (Ne.symm W.zt) (keepBut e2 (Ne.symm ne1) hz1))
    have hez:=away hz4 hs
    obtain ⟨o,ho,hc⟩:=hs
    exact wpAny_setField_rec hz4 (by simp) fun g5 _ e5=>q g5 tk2 e (fun c o c1 c2 c3 c4 g=>keepBut e5 c1 (x4 _ _ c4 (keepBut e3 c2 (keepBut e2 c3 (keepBut e1 c1 g))))) ⟨o,keepBut e5 hez ho,hc⟩
theorem nextZ_item {i:Nat} {a b:Value} {Q:Option Value → Shared → Prop} (W:ZipAway z TI TO i1 i2 f1 f2) (D1:Draws prog w A.in1 i1 f1 n1 P1 S1) (D2:Draws prog w A.in1 i2 f2 n2 P2 S2) (l1:i < n1) (l2:i < n2)
    (hz:IsZip s.heap z TI TO .none) (hI:IsPair s.heap TI (.ref i1) (.ref i2)) (hO:IsPair s.heap TO a b) (st1:S1 i s.heap) (st2:S2 i s.heap)
    (q:∀ h' tk x y,P1 i x → P2 i y → IsZip h' z TI TO (rawInt s.heap.objs.size) → IsPair h' TO x y → S1 (i + 1) h' → S2 (i + 1) h' → IsPair h' s.heap.objs.size x y → (∀ c o,c ≠ z → c ≠ TO → c ≠ i1 → c ≠ i2 → s.heap.get? c = some o → h'.get? c = some o) → Q (some (.ref s.heap.objs.size)) { s with heap:=h',toks:=tk }) :
    wpAny (model prog w) A (pyNext (.ref z)) Q E s:=by
  have hT:s.TypeIs (.ref z) "zip":=⟨_,hz,rfl⟩
  unfold pyNext
  exact wpAny_bind (wpAny_attempt (wpAny_callSpecial?_slot (name:=Str.ofString "__next__") hT F.slot_zip_next (wpAny_call_entry F.slot_zip_next hT F.entry_zip_next (zipD_item W D1 D2 l1 l2 hz hI hO st1 st2 fun h' tk x y a1 a2 a3 a4 a5 a6 a7 a8=>wpAny_pure (q h' tk x y a1 a2 a3 a4 a5 a6 a7 a8)) (F.args_zip_next_1 _))))
theorem nextZ_end {i:Nat} {a b:Value} {Q:Option Value → Shared → Prop} (W:ZipAway z TI TO i1 i2 f1 f2) (D1:Draws prog w A.in1 i1 f1 n1 P1 S1) (D2:Draws prog w A.in1 i2 f2 n2 P2 S2) (he:i = n1 ∨ (i < n1 ∧ i = n2))
    (hz:IsZip s.heap z TI TO .none) (hI:IsPair s.heap TI (.ref i1) (.ref i2)) (hO:IsPair s.heap TO a b) (st1:S1 i s.heap) (st2:S2 i s.heap)
    (q:∀ h' tk,(∀ c o,c ≠ z → c ≠ TO → c ≠ i1 → c ≠ i2 → s.heap.get? c = some o → h'.get? c = some o) → Q none { s with heap:=h',toks:=tk }):wpAny (model prog w) A (pyNext (.ref z)) Q E s:=by
  have hT:s.TypeIs (.ref z) "zip":=⟨_,hz,rfl⟩
  unfold pyNext
  refine wpAny_bind (wpAny_attempt (wpAny_callSpecial?_slot (name:=Str.ofString "__next__") hT F.slot_zip_next (wpAny_call_entry F.slot_zip_next hT F.entry_zip_next (zipD_end W D1 D2 he hz hI hO st1 st2 fun h' tk e hk hs=>?_) (F.args_zip_next_1 _))))
  obtain ⟨o,ho,hc⟩:=hs
  exact wpAny_bind (wpAny_isInstance (T:="StopIteration") (b:=true) ⟨o,ho,hc⟩ isSubtype_stop (wpAny_pure (q _ _ hk)))
def itO (l:Addr):Obj:={ cls:=.type "tuple_iterator",data:=.fields #[.ref l,.int 0 0] }
theorem meets_zipT (l1 l2:Addr) (xs ys:Array Value) :
    Meets (Builtin.«zip.__new__» ⟨[.type "zip",.ref l1,.ref l2],[]⟩) (fun _ R s=>s.heap.IsTuple l1 xs ∧ s.heap.IsTuple l2 ys ∧
      ∀ g1 g2 g3 g4 g5:Heap,g1 = s.heap.push (itO l1) → g2 = g1.push (itO l2) → g3 = g2.push { cls:=.type "tuple",data:=.seq #[.ref s.heap.objs.size,.ref g1.objs.size] } → g4 = g3.push { cls:=.type "tuple",data:=.seq #[.none,.none] } →
        g5 = g4.push { cls:=.type "zip",data:=.fields #[.none,.bool false,.bool false,.ref g2.objs.size,.ref g3.objs.size] } → R (.ok (.ret (.ref g4.objs.size))) { s with heap:=g5 }) :=
  .of_wp fun prog w A R s h=>by
    obtain ⟨hp,g,d,tk,os⟩:=s; obtain ⟨h1,h2,h⟩:=h
    have hsub:=sub_zip
    have hA:Heap.IsTuple (Shared.heap ⟨hp,g,d,tk,os⟩) l1 xs:=h1
    have hB:Heap.IsTuple (Shared.heap ⟨hp.push (itO l1),g,d,tk,os⟩) l2 ys:=Heap.IsTuple.push h2 _
    unfold itO at hB
    wp_walk using wpAny_pyIter_tuple hA,wpAny_pyIter_tuple hB
    exact ⟨_,rfl,h _ _ _ _ _ rfl rfl rfl rfl rfl⟩
theorem call_zipT {l1 l2:Addr} {xs ys:Array Value} {Q:Value → Shared → Prop} (h1:s.heap.IsTuple l1 xs) (h2:s.heap.IsTuple l2 ys)
    (q:∀ h',IsZip h' (s.heap.objs.size + 4) (s.heap.objs.size + 2) (s.heap.objs.size + 3) .none → IsPair h' (s.heap.objs.size + 2) (.ref s.heap.objs.size) (.ref (s.heap.objs.size + 1)) → IsPair h' (s.heap.objs.size + 3) .none .none →
      h'.IsTupleIter s.heap.objs.size l1 0 → h'.IsTupleIter (s.heap.objs.size + 1) l2 0 → (∀ c o,s.heap.get? c = some o → h'.get? c = some o) → Q (.ref (s.heap.objs.size + 4)) { s with heap:=h' }) :
    wpAny (model prog w) A (call (.type "zip") [.ref l1,.ref l2]) Q E s:=by
  refine callType_new F.called_zip (by decide) (F.typeCall_zip_2 _ _) (F.newCall_zip_2 _ _) (fun obj=>F.args_object_init_3 obj _ _) F.entry_zip_new (meets_zipT l1 l2 xs ys) ⟨h1,h2,?_⟩
  intro g1 g2 g3 g4 g5 e1 e2 e3 e4 e5
  have n1:g1.objs.size = s.heap.objs.size + 1:=by rw [e1]; exact Heap.size_push ..
  have n2:g2.objs.size = s.heap.objs.size + 2:=by rw [e2,Heap.size_push,n1]
  have n3:g3.objs.size = s.heap.objs.size + 3:=by rw [e3,Heap.size_push,n2]
  have n4:g4.objs.size = s.heap.objs.size + 4:=by rw [e4,Heap.size_push,n3]
  have u1:∀ c o,s.heap.get? c = some o → g1.get? c = some o:=fun c o e=>by rw [e1]; exact Heap.get?_push_of_some _ e
  have u2:∀ c o,g1.get? c = some o → g2.get? c = some o:=fun c o e=>by rw [e2]; exact Heap.get?_push_of_some _ e
  have u3:∀ c o,g2.get? c = some o → g3.get? c = some o:=fun c o e=>by rw [e3]; exact Heap.get?_push_of_some _ e
  have u4:∀ c o,g3.get? c = some o → g4.get? c = some o:=fun c o e=>by rw [e4]; exact Heap.get?_push_of_some _ e
  have u5:∀ c o,g4.get? c = some o → g5.get? c = some o:=fun c o e=>by rw [e5]; exact Heap.get?_push_of_some _ e
  have a1:g1.get? s.heap.objs.size = some (itO l1):=by rw [e1]; exact Heap.get?_push_size _ rfl
  have a2:g2.get? g1.objs.size = some (itO l2):=by rw [e2]; exact Heap.get?_push_size _ rfl
  have a3:g3.get? g2.objs.size = some { cls:=.type "tuple",data:=.seq #[.ref s.heap.objs.size,.ref g1.objs.size] }:=by rw [e3]; exact Heap.get?_push_size _ rfl
  have a4:g4.get? g3.objs.size = some { cls:=.type "tuple",data:=.seq #[.none,.none] }:=by rw [e4]; exact Heap.get?_push_size _ rfl
  have a5:g5.get? g4.objs.size = some { cls:=.type "zip",data:=.fields #[.none,.bool false,.bool false,.ref g2.objs.size,.ref g3.objs.size] }:=by rw [e5]; exact Heap.get?_push_size _ rfl
  rw [n1] at a2 a3
  rw [n2] at a3 a5
  rw [n3] at a4 a5
  rw [n4] at a5
  show _ ∧ _
  rw [n4]
  exact ⟨⟨_,a5,rfl⟩,q g5 a5 (u5 _ _ (u4 _ _ a3)) (u5 _ _ a4) ⟨_,u5 _ _ (u4 _ _ (u3 _ _ (u2 _ _ a1))),rfl,rfl⟩ ⟨_,u5 _ _ (u4 _ _ (u3 _ _ a2)),rfl,rfl⟩ fun c o e=>u5 _ _ (u4 _ _ (u3 _ _ (u2 _ _ (u1 _ _ e))))⟩
end
end PySem
namespace L2
open PySem PySem.Spec PyProof.Rows
def Ittz (a b:Addr):It :=
  ⟨fun i H=>∃ xs ys x y,Rd H a (.tup xs) ∧ Rd H b (.tup ys) ∧ xs[i]? = some x ∧ ys[i]? = some y,fun i H v H'=>∃ T x y,H T = none ∧ v = .ref T ∧ (∀ xs,Rd H a (.tup xs) → xs[i]? = some x) ∧ (∀ ys,Rd H b (.tup ys) → ys[i]? = some y) ∧ H' = upd H T (.tup [x,y]),
    fun i H=>∃ xs ys,Rd H a (.tup xs) ∧ Rd H b (.tup ys) ∧ i = min xs.length ys.length⟩
theorem Rd.one {H:Hp} {a:Addr} {xs ys:List V} (h1:Rd H a (.tup xs)) (h2:Rd H a (.tup ys)):xs = ys:=by
  rcases h1 with h1 | ⟨o,h1⟩ <;> rcases h2 with h2 | ⟨o',h2⟩ <;> (rw [h1] at h2; cases h2 <;> rfl)
theorem Rd.ne {H:Hp} {a b:Addr} {u:HO} (h:Rd H a u) (n:H b = none):a ≠ b:=fun e=>by
  rcases h with h | ⟨o,h⟩ <;> (rw [e,n] at h; cases h)
structure ZipNew (z TI TO i1 i2:Addr):Prop where
  tz:TO ≠ z
  kz:TI ≠ z
  kt:TI ≠ TO
  k1:TI ≠ i1
  k2:TI ≠ i2
  z1:i1 ≠ z
  z2:i2 ≠ z
  t1:TO ≠ i1
  t2:TO ≠ i2
  ii:i1 ≠ i2
theorem ZipNew.of (n:Nat):ZipNew (n + 4) (n + 2) (n + 3) n (n + 1):=by constructor <;> (intro e; have e':(_:Nat) = _:=e; omega)
theorem ZipNew.away {z TI TO i1 i2 a b:Addr} (d:ZipNew z TI TO i1 i2) (ha:∀ c ∈ [z,TI,TO,i1,i2],a ≠ c) (hb:∀ c ∈ [z,TI,TO,i1,i2],b ≠ c):ZipAway z TI TO i1 i2 [i1,a] [i2,b] where
  zt:=d.tz
  kz:=d.kz
  kt:=d.kt
  k1:=d.k1
  k2:=d.k2
  z1:=by simp [Ne.symm d.z1,Ne.symm (ha z (by simp))]
  z2:=by simp [Ne.symm d.z2,Ne.symm (hb z (by simp))]
  t1:=by simp [d.t1,Ne.symm (ha TO (by simp))]
  t2:=by simp [d.t2,Ne.symm (hb TO (by simp))]
  m1:=by simp
  m2:=by simp
  o1:=by simp [d.ii,Ne.symm (hb i1 (by simp))]
  o2:=by simp [Ne.symm d.ii,Ne.symm (ha i2 (by simp))]
theorem turn_zipT {P:Program} {w:World} {K:PySem.W.Frag} {elts:List Expr} {kk:Nat} {tp:Pos} {z TI TO i1 i2:Addr} (a b:Addr) (d:ZipNew z TI TO i1 i2):Turn P w K (.Tuple elts kk tp) (Ittz a b) [z,TI,TO,i1,i2] z (fun i h=>IsZip h z TI TO .none ∧ IsPair h TI (.ref i1) (.ref i2) ∧ (∃ x y,IsPair h TO x y) ∧ h.IsTupleIter i1 a i ∧ h.IsTupleIter i2 b i) where
  mem:=by simp
  obj:=fun i h st c hc=>by
    obtain ⟨hz,hI,⟨x,y,hO⟩,⟨o1,g1,c1,d1⟩,⟨o2,g2,c2,d2⟩⟩:=st
    simp only [List.mem_cons,List.not_mem_nil,or_false] at hc
    rcases hc with rfl | rfl | rfl | rfl | rfl
    · exact ⟨_,hz,fun v q=>by have q':Data.fields _ = Data.cell v:=q; cases q'⟩
    · exact ⟨_,hI,fun v q=>by have q':Data.seq _ _ = Data.cell v:=q; cases q'⟩
    · exact ⟨_,hO,fun v q=>by have q':Data.seq _ _ = Data.cell v:=q; cases q'⟩
    · exact ⟨o1,g1,fun v q=>by rw [d1] at q; cases q⟩
    · exact ⟨o2,g2,fun v q=>by rw [d2] at q; cases q⟩
  keep:=fun i h h' st k=>by
    obtain ⟨hz,hI,⟨x,y,hO⟩,h1,h2⟩:=st
    exact ⟨k z (by simp) _ hz,k TI (by simp) _ hI,⟨x,y,k TO (by simp) _ hO⟩,h1.at fun o e=>k i1 (by simp) o e,h2.at fun o e=>k i2 (by simp) o e⟩
  item:=by
    intro X hP hw hK hc i pins s σ H E I hf st hg
    subst hP hw hK
    obtain ⟨xs,ys,x,y,ha,hb,hx,hy⟩:=hg
    obtain ⟨its,rv,p,_⟩:=I.tuple (.inl ha)
    obtain ⟨its2,rv2,p2,_⟩:=I.tuple (.inl hb)
    obtain ⟨u,hu,ru⟩:=rv.get hx
    obtain ⟨v,hv,rw2⟩:=rv2.get hy
    have hA:X.A.handled = none:=I.ok.hd hc
    obtain ⟨hz,hI,⟨x0,y0,hO⟩,h1,h2⟩:=id st
    have na:∀ c ∈ [z,TI,TO,i1,i2],a ≠ c:=fun c hc=>ha.ne (hf c hc).1
    have nb:∀ c ∈ [z,TI,TO,i1,i2],b ≠ c:=fun c hc=>hb.ne (hf c hc).1
    have li:i < its.toArray.size:=by have:=(List.getElem?_eq_some_iff.mp hu).1; simpa using this
    have li2:i < its2.toArray.size:=by have:=(List.getElem?_eq_some_iff.mp hv).1; simpa using this
    refine nextZ_item (d.away na nb) (Draws.tup (by exact hA) i1 a (na i1 (by simp)) its.toArray) (Draws.tup (by exact hA) i2 b (nb i2 (by simp)) its2.toArray) li li2 hz hI hO ⟨h1,p⟩ ⟨h2,p2⟩ fun h' tk u' v' hu' hv' a3 a4 a5 a6 a7 a8=>?_
    have eu:u' = u:=by
      have q:its.toArray[i]? = some u:=by simpa using hu
      rw [q] at hu'
      exact (Option.some.inj hu').symm
    have ev:v' = v:=by
      have q:its2.toArray[i]? = some v:=by simpa using hv
      rw [q] at hv'
      exact (Option.some.inj hv').symm
    subst eu ev
    refine ⟨_,rfl,wpAny_letOwnedTupleGo_zip (s:={ s with heap:=h',toks:=tk }) a3 fun g hz' e'=>?_⟩
    have kp:∀ c o,c ∉ [z,TI,TO,i1,i2] → s.heap.get? c = some o → g.get? c = some o:=fun c o hc q=>by
      simp only [List.mem_cons,List.not_mem_nil,or_false,not_or] at hc
      exact keepBut e' hc.1 (a8 c o hc.1 hc.2.2.1 hc.2.2.2.1 hc.2.2.2.2 q)
    have nT:∀ c ∈ [z,TI,TO,i1,i2],c ≠ s.heap.objs.size:=fun c hc=>by
      have:∃ o,s.heap.get? c = some o:=by
        simp only [List.mem_cons,List.not_mem_nil,or_false] at hc
        rcases hc with rfl | rfl | rfl | rfl | rfl
        · exact ⟨_,hz⟩
        · exact ⟨_,hI⟩
        · exact ⟨_,hO⟩
        · obtain ⟨o,q,_⟩:=h1; exact ⟨o,q⟩
        · obtain ⟨o,q,_⟩:=h2; exact ⟨o,q⟩
      obtain ⟨o,q⟩:=this
      exact Nat.ne_of_lt (Heap.lt_size q)
    have new:ObjOk X.prog X.w (upd H s.heap.objs.size (.tup [x,y])) g s.heap.objs.size (.tup [x,y]) :=
      ⟨by show 2 ≤ sizeLine; decide,[u',v'],.cons ru (.cons rw2 .nil),_,keepBut e' (Ne.symm (nT z (by simp))) a7,rfl,_,rfl⟩
    refine ⟨.ref s.heap.objs.size,_,I.turnedLaid (ch:=[z,TI,TO,i1,i2]) (t':=tk) hf kp (Nat.le_refl _) new,rfl,⟨s.heap.objs.size,x,y,I.hok.fresh (Nat.le_refl _),rfl,fun xs' h=>by rw [← ha.one h]; exact hx,fun ys' h=>by rw [← hb.one h]; exact hy,rfl⟩,?_,fun c hc=>?_⟩
    · exact ⟨hz',keepBut e' d.kz (a8 _ _ d.kz d.kt d.k1 d.k2 hI),⟨_,_,keepBut e' d.tz a4⟩,a5.1.at fun o q=>keepBut e' d.z1 q,a6.1.at fun o q=>keepBut e' d.z2 q⟩
    · rw [upd_ne (nT c hc)]; exact (hf c hc).1
  done:=by
    intro X hP hw hK hc i pins s σ H E I hf st hg
    subst hP hw hK
    obtain ⟨xs,ys,ha,hb,hi⟩:=hg
    obtain ⟨its,rv,p,_⟩:=I.tuple (.inl ha)
    obtain ⟨its2,rv2,p2,_⟩:=I.tuple (.inl hb)
    have hA:X.A.handled = none:=I.ok.hd hc
    obtain ⟨hz,hI,⟨x0,y0,hO⟩,h1,h2⟩:=id st
    have na:∀ c ∈ [z,TI,TO,i1,i2],a ≠ c:=fun c hc=>ha.ne (hf c hc).1
    have nb:∀ c ∈ [z,TI,TO,i1,i2],b ≠ c:=fun c hc=>hb.ne (hf c hc).1
    have e1:=rv.length
    have e2:=rv2.length
    refine nextZ_end (d.away na nb) (Draws.tup (by exact hA) i1 a (na i1 (by simp)) its.toArray) (Draws.tup (by exact hA) i2 b (nb i2 (by simp)) its2.toArray) (i:=i) (by simp only [List.size_toArray]; omega) hz hI hO ⟨h1,p⟩ ⟨h2,p2⟩ fun h' tk k1=>⟨rfl,I.turnedL (ch:=[z,TI,TO,i1,i2]) (t':=tk) hf fun c o hc q=>?_⟩
    simp only [List.mem_cons,List.not_mem_nil,or_false,not_or] at hc
    exact k1 c o hc.1 hc.2.2.1 hc.2.2.2.1 hc.2.2.2.2 q
  self:=fun _ _ _ _ _ st h=>wpAny_pyIter_zip st.1 h
section
variable {X:Cx}
def iZipT (ta:TA):TI:=fun σ H R=>ta σ H fun vs H1=>∃ a b xs ys,vs = [.ref a,.ref b] ∧ Rd H1 a (.tup xs) ∧ Rd H1 b (.tup ys) ∧ R (Ittz a b) H1
theorem pi_zipT {a b:Expr} {ta:TA} {p pos:Pos} {elts:List Expr} {kk:Nat} {tp:Pos} (hg:Gl X "zip") (hm:X.mg "zip" = none) (ha:PA X [a,b] ta) (hs:starEach [a,b] X.env = [(false,eval a X.env),(false,eval b X.env)]:=by rfl) (hs2:starEach [b] X.env = [(false,eval b X.env)]:=by rfl) :
    PI X (.Tuple elts kk tp) (.Call (.Name "zip" p) [a,b] [] pos) (iZipT ta):=by
  intro pins s σ H R I h
  refine Call_ (ld_blt I hg hm (show bootBuiltins "zip" = some (.type "zip") by decide +kernel) (PyProof.Rows.callWith_type1 (thn (ha pos pins s σ H _ I h) fun us s1 ⟨vs,H1,I1,r1,q1⟩=>?_) (by rw [hs,hs2]) (by rw [hs2]; rfl)))
  obtain ⟨l1,l2,xs,ys,e,h1,h2,q⟩:=q1
  subst e
  cases r1 with
  | cons r rr =>
    cases rr with
    | cons r' rr =>
      cases rr
      cases r
      cases r'
      obtain ⟨its,rv,p,hz⟩:=I1.tuple (.inl h1)
      obtain ⟨its2,rv2,p2,hz2⟩:=I1.tuple (.inl h2)
      refine call_zipT p p2 fun h' hz hI hO g1 g2 kp=>wpAny_pyIter_zip hz ⟨s1.heap.objs.size + 4,[s1.heap.objs.size + 4,s1.heap.objs.size + 2,s1.heap.objs.size + 3,s1.heap.objs.size,s1.heap.objs.size + 1],_,_,H1,rfl,I1.kept (t':=s1.toks) kp,turn_zipT l1 l2 (ZipNew.of _),⟨hz,hI,⟨_,_,hO⟩,g1,g2⟩,fun c hc=>?_,q⟩
      · have:s1.heap.objs.size ≤ c:=by
          simp only [List.mem_cons,List.not_mem_nil,or_false] at hc
          rcases hc with rfl | rfl | rfl | rfl | rfl
          · exact Nat.le_add_right _ _
          · exact Nat.le_add_right _ _
          · exact Nat.le_add_right _ _
          · exact Nat.le_refl _
          · exact Nat.le_add_right _ _
        exact I1.fpOk this (I1.hok.fresh this)
end
theorem pi_either {X:Cx} {tg e:Expr} {w1 w2:TI} (h1:PI X tg e w1) (h2:PI X tg e w2):PI X tg e (fun σ H R=>w1 σ H R ∨ w2 σ H R):=fun pins s σ H R I h=>h.elim (h1 pins s σ H R I) (h2 pins s σ H R I)
theorem comp_zipT {K:PySem.W.Frag} {a b:Addr} {xs ys:List V} {x0 x1:Str} {ix:List Nat} {ti:TT} {te:TE} {Q:VK} {σ:St} {H:Hp} (Pv:Nat → List V → Hp → Prop) (h0:Pv 0 [] H) (hl:∀ i zs H,Pv i zs H → Rd H a (.tup xs) ∧ Rd H b (.tup ys))
    (hs:∀ i x y zs H T (R:List V → Hp → Prop),xs[i]? = some x → ys[i]? = some y → Pv i zs H → H T = none → (∀ zs' H',Pv (i + 1) zs' H' → R zs' H') → ti (some x :: some y :: ix.map fun j=>(σ[j]?).join) (upd H T (.tup [x,y])) fun b H3=>if b = true then te (some x :: some y :: ix.map fun j=>(σ[j]?).join) H3 fun v H4=>zs.length < sizeLine ∧ R (zs ++ [v]) H4 else R zs H3)
    (hd:∀ zs H,Pv (min xs.length ys.length) zs H → zs.length ≤ sizeLine ∧ ∀ D,H D = none → Q (.ref D) (upd H D (.lst zs))) :
    ∃ W:Nat → Nat → List V → St → Hp → Prop,(∃ m,W 0 m [] (capS σ [x0,x1] ix) H) ∧ ∀ i m zs σ' H,W i m zs σ' H →
      ((Ittz a b).stop i H ∧ zs.length ≤ sizeLine ∧ ∀ D,H D = none → Q (.ref D) (upd H D (.lst zs))) ∨
      ((Ittz a b).go i H ∧ ∀ x H',(Ittz a b).yld i H x H' → gTup K 2 (gCons (gName 0) (gCons (gName 1) gNil)) x σ' H' fun σ2 H2=>ti σ2 H2 fun b H3=>if b = true then te σ2 H3 fun y H4=>zs.length < sizeLine ∧ ∃ m',m' < m ∧ W (i + 1) m' (zs ++ [y]) σ2 H4 else ∃ m',m' < m ∧ W (i + 1) m' zs σ2 H3):=by
  refine ⟨fun i m zs σ' H=>m = min xs.length ys.length - i ∧ i ≤ min xs.length ys.length ∧ (∃ o o',σ' = o :: o' :: ix.map fun j=>(σ[j]?).join) ∧ Pv i zs H,⟨_,rfl,Nat.zero_le _,⟨none,none,rfl⟩,h0⟩,?_⟩
  rintro i m zs σ' H ⟨rfl,hi,⟨o,o',rfl⟩,p⟩
  obtain ⟨q1,q2⟩:=hl i zs H p
  by_cases hlt:i < min xs.length ys.length
  · have l1:i < xs.length:=by omega
    have l2:i < ys.length:=by omega
    refine .inr ⟨⟨xs,ys,xs[i],ys[i],q1,q2,by simp [l1],by simp [l2]⟩,fun v H' y=>?_⟩
    obtain ⟨T,x,y,hT,rfl,hx,hy,rfl⟩:=y
    refine ⟨T,[x,y],rfl,SqT.of upd_same,rfl,x,[y],rfl,y,[],rfl,rfl,?_⟩
    exact hs i x y zs H T (fun zs' H4=>∃ m',m' < min xs.length ys.length - i ∧ m' = min xs.length ys.length - (i + 1) ∧ i + 1 ≤ min xs.length ys.length ∧ (∃ o o',(some x :: some y :: ix.map fun j=>(σ[j]?).join) = o :: o' :: ix.map fun j=>(σ[j]?).join) ∧ Pv (i + 1) zs' H4) (hx xs q1) (hy ys q2) p hT
      fun zs' H4 z=>⟨min xs.length ys.length - (i + 1),by omega,rfl,by omega,⟨_,_,rfl⟩,z⟩
  · have e:i = min xs.length ys.length:=by omega
    subst e
    exact .inl ⟨⟨xs,ys,q1,q2,rfl⟩,hd zs H p⟩
end L2
namespace HT
open PySem PySem.Spec PyProof.Rows
section
variable {prog:Program} {w:World} {A:Around} {E:Value → Shared → Prop} {s:Shared}
theorem getItem_tuple_all {t sl:Addr} {items:Array Value} {vl vu:Value} {lo hi:Option Int} {Q:Value → Shared → Prop} (ht:IsTup s.heap t items) (hs:s.heap.IsSliceOf sl vl vu .none) (pl:IsPart vl lo) (pu:IsPart vu hi)
    (hw:sIx items.size 0 lo = 0 ∧ sIx items.size items.size hi = items.size) (h:Q (.ref t) s):wpAny (model prog w) A (getItem (.ref t) (.ref sl)) Q E s:=by
  obtain ⟨os,hos,hcs,hds⟩:=id hs
  have hTs:s.TypeIs (.ref sl) "slice":=⟨os,hos,hcs⟩
  unfold getItem
  try with_reducible refine wpAny_holding ?_
  first | refine wpAny_bind (wpAny_pure ?_) | skip
  refine wpAny_bind (wpAny_sequenceKey ht.typeIs (by decide) ?_)
  refine wpAny_bind (wpAny_callSpecial?_slot (name:=Str.ofString "__getitem__") ht.typeIs PyProof.Rows.slot_tuple_getitem
    (wpAny_call_entry PyProof.Rows.slot_tuple_getitem ht.typeIs entry_tuple_getitem ?_ (args_tuple_getitem _ _)))
  show wpAny _ _ (Builtin.Tuple.tupleItemsOf (.ref t) >>= _) _ _ s
  refine wpAny_bind (tupleItemsOf_ ht ?_)
  refine wpAny_bind (wpAny_typeOf hTs ?_)
  rw [if_pos (by decide)]
  refine wpAny_bind (sliceApplied_gen hs pl pu ?_)
  have hyes:(((sIx items.size 0 lo:Nat):Int) == 0 && (1:Int) == 1 && (sIx items.size items.size hi - sIx items.size 0 lo) == items.size) = true:=by
    rw [hw.1,hw.2]
    simp
  show wpAny _ _ (if (((sIx items.size 0 lo:Nat):Int) == 0 && (1:Int) == 1 && (sIx items.size items.size hi - sIx items.size 0 lo) == items.size) = true then _ else _) _ _ s
  rw [if_pos hyes]
  refine wpAny_bind (m:=Builtin.Tuple.tupleIsExact (.ref t)) ?_
  refine wpAny_bind (wpAny_typeOf ht.typeIs (wpAny_pure ?_))
  rw [if_pos (by decide)]
  exact wpAny_bind (wpAny_rule (wpAny_pure ⟨_,rfl,wpAny_pure h⟩))
end
end HT
namespace L2
open PySem PySem.Spec PyProof.Rows
def rSlTa (K:PySem.W.Frag):V → Option Int → Option Int → Hp → VK → Prop:=fun x lo hi H Q=>∃ a xs,x = .ref a ∧ SqT K H a xs ∧
  ((HT.sIx xs.length 0 lo = 0 ∧ HT.sIx xs.length xs.length hi = xs.length) → Q (.ref a) H) ∧ (¬ (HT.sIx xs.length 0 lo = 0 ∧ HT.sIx xs.length xs.length hi = xs.length) → ∀ p,H p = none → Q (.ref p) (upd H p (.tup (cutV xs lo hi))))
theorem sl_tupA {X:Cx}:SlR X (rSlTa X.K):=by
  intro pins s σ H x v vl vu lo hi sl Q I rx hs pl pu h
  obtain ⟨a,xs,rfl,hx,q1,q2⟩:=h
  by_cases hw:HT.sIx xs.length 0 lo = 0 ∧ HT.sIx xs.length xs.length hi = xs.length
  · cases rx
    obtain ⟨its,r,ht,hz⟩:=I.tuple hx
    have hlen:its.toArray.size = xs.length:=by rw [List.size_toArray]; exact r.length.symm
    refine ⟨"tuple",_,PyProof.Rows.slot_tuple_getitem.lookup,ht.typeIs,?_⟩
    exact HT.getItem_tuple_all ht hs pl pu (by rw [hlen]; exact hw) ⟨.ref a,H,I,rfl,q1 hw⟩
  · exact sl_tup pins s σ H _ v vl vu lo hi sl Q I rx hs pl pu ⟨a,xs,rfl,hx,hw,q2 hw⟩
end L2
namespace K09
open PySem L2 SH
local macro_rules | `(tactic| and_intros)=>`(tactic| simp only [rExtend,rSetL,gSub,iRng3,tSeq,tNext,tRet,tRetN,tAsg,tIfS,tDrop,tVar,tC,tOp,tUn,rI0,rI,rU,rEq,rNe,tTest,tB,tCB,tCons,tNil,tLst,tTup,tSl,tNoPart,tPart,rSlS,rSlL,rIxL,rIxT,rIxS,tCall,tMeth,tMake,tAnd,tOr,tNot,tAndV,tOrV,tNotV,tIf,tChain,gName,tFld,sFld,tBM,tBM0,rAppend,rInsert,tRaise,tNever,CDiv,CMul,L2.start,scal_ii,scal_ss,scal_bb,cxOf,cxOfN,Cx.suite,Cx.comp,rLenL,rLenT,rListL,rListT,rTupL,rTupT,rIsiT,iRng1,iRng2,iList,iTup,iStr,gTup,gCons,gNil,iEnumT,iZipT,tDIn,rDictP,rRange1,rRange2,rListR,rTupF,tCountF,rCountT,tAug,ipI,rSlT,rSlTa,iTup,tDNewT,tDGet,tDGet2,sDPut,List.set_cons_zero,List.set_cons_succ,List.getElem?_cons_zero,List.getElem?_cons_succ,List.map_cons,List.map_nil,List.length_cons,List.length_nil,List.replicate_succ,List.replicate_zero,Nat.reduceSub,Nat.reduceAdd,List.cons_append,List.nil_append,List.append_nil,V.int.injEq,V.str.injEq,V.bl.injEq,V.ref.injEq,V.ty.injEq,Option.some.injEq,List.cons.injEq,exists_eq_left',exists_eq_left,exists_eq_right,exists_eq_right',exists_and_left,exists_and_right,and_true,true_and,and_assoc,decide_eq_true_eq,Bool.not_eq_true',decide_eq_false_iff_not,Bool.not_true,Bool.not_false,Bool.false_eq_true,if_false,if_true,eq_self,Bool.not_eq_true,Bool.true_eq_false,reduceCtorEq,false_and,exists_false,exists_const,List.reduceReplicate,Int.reduceLT,Int.reduceLE,Nat.reduceLT,Nat.reduceLeDiff,Int.reduceNeg,List.getElem?_nil,Option.join_some,Option.join_none,List.set_nil,ite_self,not_true_eq_false,not_false_eq_true])
def top (i:Nat):Stmt:=PySem.Challenge.pw_shrinkhouse_k09_before_under_beside.main.body.getD i (.Pass ⟨0,0,0,0⟩)
abbrev s_is_whole:Stmt:=top 8
abbrev s_is_mark:Stmt:=top 9
abbrev s_check_list:Stmt:=top 16
abbrev s_check_marks:Stmt:=top 17
abbrev s_check_node:Stmt:=top 18
abbrev s_check_nodes:Stmt:=top 19
abbrev s_check_lines:Stmt:=top 20
abbrev s_check_places:Stmt:=top 21
abbrev s_marks_at:Stmt:=top 22
abbrev s_places_of:Stmt:=top 23
abbrev s_stands_ahead:Stmt:=top 24
abbrev s_stands_right_ahead:Stmt:=top 25
abbrev s_Thing_init:Stmt:=inClass (top 26) 0
abbrev s_Thing_is_before:Stmt:=inClass (top 26) 3
abbrev s_Row_init:Stmt:=inClass (top 27) 0
abbrev s_Row_many:Stmt:=inClass (top 27) 1
abbrev s_Row_left:Stmt:=inClass (top 27) 2
abbrev s_Row_form:Stmt:=inClass (top 27) 3
abbrev s_Row_is_under:Stmt:=inClass (top 27) 5
abbrev s_Row_is_beside:Stmt:=inClass (top 27) 6
abbrev s_Forest_init:Stmt:=inClass (top 28) 0
abbrev s_Forest_many:Stmt:=inClass (top 28) 1
abbrev s_Forest_left:Stmt:=inClass (top 28) 2
abbrev s_Forest_form:Stmt:=inClass (top 28) 3
abbrev s_Forest_standing:Stmt:=inClass (top 28) 4
abbrev s_Forest_is_under:Stmt:=inClass (top 28) 5
abbrev s_Forest_is_beside:Stmt:=inClass (top 28) 6
abbrev s_Forest_hanging:Stmt:=inClass (top 28) 7
abbrev s_Table_init:Stmt:=inClass (top 29) 0
abbrev s_Table_many:Stmt:=inClass (top 29) 1
abbrev s_Table_left:Stmt:=inClass (top 29) 2
abbrev s_Table_form:Stmt:=inClass (top 29) 3
abbrev s_Table_is_under:Stmt:=inClass (top 29) 5
abbrev s_Table_is_beside:Stmt:=inClass (top 29) 6
abbrev s__law_cell_at:Stmt:=top 31
abbrev s__law_mix:Stmt:=top 32
abbrev s__law_how_many:Stmt:=top 33
abbrev s__law_marks:Stmt:=top 34
abbrev s__law_pick:Stmt:=top 35
abbrev s__law_cells:Stmt:=top 36
abbrev s__law_nodes:Stmt:=top 37
abbrev s__law_lines:Stmt:=top 38
abbrev s__law_some:Stmt:=top 39
abbrev s__law_table_by:Stmt:=top 40
abbrev s__law_thing:Stmt:=top 41
abbrev s__law_spots:Stmt:=top 42
abbrev s__law_above:Stmt:=top 43
abbrev s__law_pair:Stmt:=top 44
abbrev s__law_due:Stmt:=top 45
abbrev s_law:Stmt:=top 46
theorem sc_is_whole:FnScope ["thing"] ["thing"] (defScope s_is_whole):=⟨rfl,rfl,rfl,by decide +kernel,rfl,by decide +kernel,by decide +kernel⟩
theorem sc_is_mark:FnScope ["thing"] ["thing"] (defScope s_is_mark):=⟨rfl,rfl,rfl,by decide +kernel,rfl,by decide +kernel,by decide +kernel⟩
theorem sc_check_list:FnScope ["thing","most"] ["thing","most"] (defScope s_check_list):=⟨rfl,rfl,rfl,by decide +kernel,rfl,by decide +kernel,by decide +kernel⟩
theorem sc_check_marks:FnScope ["marks","most","mark"] ["marks","most"] (defScope s_check_marks):=⟨rfl,rfl,rfl,by decide +kernel,rfl,by decide +kernel,by decide +kernel⟩
theorem sc_check_node:FnScope ["node","deepest"] ["node","deepest"] (defScope s_check_node):=⟨rfl,rfl,rfl,by decide +kernel,rfl,by decide +kernel,by decide +kernel⟩
theorem sc_check_nodes:FnScope ["nodes","deepest","node"] ["nodes"] (defScope s_check_nodes):=⟨rfl,rfl,rfl,by decide +kernel,rfl,by decide +kernel,by decide +kernel⟩
theorem sc_check_lines:FnScope ["lines","line"] ["lines"] (defScope s_check_lines):=⟨rfl,rfl,rfl,by decide +kernel,rfl,by decide +kernel,by decide +kernel⟩
theorem sc_check_places:FnScope ["places","many","lowest","place"] ["places","many"] (defScope s_check_places):=⟨rfl,rfl,rfl,by decide +kernel,rfl,by decide +kernel,by decide +kernel⟩
theorem sc_marks_at:FnScope ["marks","places"] ["marks","places"] (defScope s_marks_at):=⟨rfl,rfl,rfl,by decide +kernel,rfl,by decide +kernel,by decide +kernel⟩
theorem sc_places_of:FnScope ["marks","mark"] ["marks","mark"] (defScope s_places_of):=⟨rfl,rfl,rfl,by decide +kernel,rfl,by decide +kernel,by decide +kernel⟩
theorem sc_stands_ahead:FnScope ["marks","one","other","seen","mark"] ["marks","one","other"] (defScope s_stands_ahead):=⟨rfl,rfl,rfl,by decide +kernel,rfl,by decide +kernel,by decide +kernel⟩
theorem sc_stands_right_ahead:FnScope ["marks","one","other"] ["marks","one","other"] (defScope s_stands_right_ahead):=⟨rfl,rfl,rfl,by decide +kernel,rfl,by decide +kernel,by decide +kernel⟩
theorem sc_Thing_init:FnScope ["self","spot_marks"] ["self","spot_marks"] (defScope s_Thing_init):=⟨rfl,rfl,rfl,by decide +kernel,rfl,by decide +kernel,by decide +kernel⟩
theorem sc_Thing_is_before:FnScope ["self","one","other"] ["self","one","other"] (defScope s_Thing_is_before):=⟨rfl,rfl,rfl,by decide +kernel,rfl,by decide +kernel,by decide +kernel⟩
theorem sc_Row_init:FnScope ["self","marks"] ["self","marks"] (defScope s_Row_init):=⟨rfl,rfl,rfl,by decide +kernel,rfl,by decide +kernel,by decide +kernel⟩
theorem sc_Row_many:FnScope ["self"] ["self"] (defScope s_Row_many):=⟨rfl,rfl,rfl,by decide +kernel,rfl,by decide +kernel,by decide +kernel⟩
theorem sc_Row_left:FnScope ["self","places"] ["self","places"] (defScope s_Row_left):=⟨rfl,rfl,rfl,by decide +kernel,rfl,by decide +kernel,by decide +kernel⟩
theorem sc_Row_form:FnScope ["self"] ["self"] (defScope s_Row_form):=⟨rfl,rfl,rfl,by decide +kernel,rfl,by decide +kernel,by decide +kernel⟩
theorem sc_Row_is_under:FnScope ["self","one","other"] ["self","one","other"] (defScope s_Row_is_under):=⟨rfl,rfl,rfl,by decide +kernel,rfl,by decide +kernel,by decide +kernel⟩
theorem sc_Row_is_beside:FnScope ["self","one","other"] ["self","one","other"] (defScope s_Row_is_beside):=⟨rfl,rfl,rfl,by decide +kernel,rfl,by decide +kernel,by decide +kernel⟩
theorem sc_Forest_init:FnScope ["self","nodes"] ["self","nodes"] (defScope s_Forest_init):=⟨rfl,rfl,rfl,by decide +kernel,rfl,by decide +kernel,by decide +kernel⟩
theorem sc_Forest_many:FnScope ["self"] ["self"] (defScope s_Forest_many):=⟨rfl,rfl,rfl,by decide +kernel,rfl,by decide +kernel,by decide +kernel⟩
theorem sc_Forest_left:FnScope ["self","places","kept","rest","above","place","node","depth"] ["self","places"] (defScope s_Forest_left):=⟨rfl,rfl,rfl,by decide +kernel,rfl,by decide +kernel,by decide +kernel⟩
theorem sc_Forest_form:FnScope ["self"] ["self"] (defScope s_Forest_form):=⟨rfl,rfl,rfl,by decide +kernel,rfl,by decide +kernel,by decide +kernel⟩
theorem sc_Forest_standing:FnScope ["self","mark"] ["self","mark"] (defScope s_Forest_standing):=⟨rfl,rfl,rfl,by decide +kernel,rfl,by decide +kernel,by decide +kernel⟩
theorem sc_Forest_is_under:FnScope ["self","one","other","place"] ["self","one","other"] (defScope s_Forest_is_under):=⟨rfl,rfl,rfl,by decide +kernel,rfl,by decide +kernel,by decide +kernel⟩
theorem sc_Forest_is_beside:FnScope ["self","one","other","place","behind"] ["self","one","other"] (defScope s_Forest_is_beside):=⟨rfl,rfl,rfl,by decide +kernel,rfl,by decide +kernel,by decide +kernel⟩
theorem sc_Forest_hanging:FnScope ["self","place","end"] ["self","place"] (defScope s_Forest_hanging):=⟨rfl,rfl,rfl,by decide +kernel,rfl,by decide +kernel,by decide +kernel⟩
theorem sc_Table_init:FnScope ["self","lines","spot_marks","line"] ["self","lines"] (defScope s_Table_init):=⟨rfl,rfl,rfl,by decide +kernel,rfl,by decide +kernel,by decide +kernel⟩
theorem sc_Table_many:FnScope ["self"] ["self"] (defScope s_Table_many):=⟨rfl,rfl,rfl,by decide +kernel,rfl,by decide +kernel,by decide +kernel⟩
theorem sc_Table_left:FnScope ["self","places","first_column","lines","columns","rest"] ["self","places"] (defScope s_Table_left):=⟨rfl,rfl,rfl,by decide +kernel,rfl,by decide +kernel,by decide +kernel⟩
theorem sc_Table_form:FnScope ["self"] ["self"] (defScope s_Table_form):=⟨rfl,rfl,rfl,by decide +kernel,rfl,by decide +kernel,by decide +kernel⟩
theorem sc_Table_is_under:FnScope ["self","one","other","column"] ["self","one","other"] (defScope s_Table_is_under):=⟨rfl,rfl,rfl,by decide +kernel,rfl,by decide +kernel,by decide +kernel⟩
theorem sc_Table_is_beside:FnScope ["self","one","other"] ["self","one","other"] (defScope s_Table_is_beside):=⟨rfl,rfl,rfl,by decide +kernel,rfl,by decide +kernel,by decide +kernel⟩
theorem sc__law_cell_at:FnScope ["_law_script","_law_k"] ["_law_script","_law_k"] (defScope s__law_cell_at):=⟨rfl,rfl,rfl,by decide +kernel,rfl,by decide +kernel,by decide +kernel⟩
theorem sc__law_mix:FnScope ["_law_seed","_law_k","_law_number"] ["_law_seed","_law_k"] (defScope s__law_mix):=⟨rfl,rfl,rfl,by decide +kernel,rfl,by decide +kernel,by decide +kernel⟩
theorem sc__law_how_many:FnScope ["_law_number"] ["_law_number"] (defScope s__law_how_many):=⟨rfl,rfl,rfl,by decide +kernel,rfl,by decide +kernel,by decide +kernel⟩
theorem sc__law_marks:FnScope ["_law_cell","_law_many","_law_letters","_law_base","_law_at","_law_first","_law_step"] ["_law_cell","_law_many"] (defScope s__law_marks):=⟨rfl,rfl,rfl,by decide +kernel,rfl,by decide +kernel,by decide +kernel⟩
theorem sc__law_pick:FnScope ["_law_cell","_law_marks_here"] ["_law_cell","_law_marks_here"] (defScope s__law_pick):=⟨rfl,rfl,rfl,by decide +kernel,rfl,by decide +kernel,by decide +kernel⟩
theorem sc__law_cells:FnScope ["_law_script","_law_begin","_law_seed","_law_many","_law_cells_here","_law_rest","_law_k"] ["_law_script","_law_begin","_law_seed","_law_many"] (defScope s__law_cells):=⟨rfl,rfl,rfl,by decide +kernel,rfl,by decide +kernel,by decide +kernel⟩
theorem sc__law_nodes:FnScope ["_law_cells_here","_law_marks_here","_law_nodes_here","_law_deepest","_law_chain","_law_cell","_law_depth"] ["_law_cells_here","_law_marks_here"] (defScope s__law_nodes):=⟨rfl,rfl,rfl,by decide +kernel,rfl,by decide +kernel,by decide +kernel⟩
theorem sc__law_lines:FnScope ["_law_cells_here","_law_marks_here","_law_wide","_law_lines_here","_law_k"] ["_law_cells_here","_law_marks_here","_law_wide"] (defScope s__law_lines):=⟨rfl,rfl,rfl,by decide +kernel,rfl,by decide +kernel,by decide +kernel⟩
theorem sc__law_some:FnScope ["_law_cell","_law_many","_law_some_here","_law_rest","_law_way","_law_k","_law_kept"] ["_law_cell","_law_many"] (defScope s__law_some):=⟨rfl,rfl,rfl,by decide +kernel,rfl,by decide +kernel,by decide +kernel⟩
theorem sc__law_table_by:FnScope ["_law_script","_law_begin","_law_marks_here","_law_seed","_law_lines_here","_law_rest","_law_k","_law_line","_law_j","_law_wide"] ["_law_script","_law_begin","_law_marks_here"] (defScope s__law_table_by):=⟨rfl,rfl,rfl,by decide +kernel,rfl,by decide +kernel,by decide +kernel⟩
theorem sc__law_thing:FnScope ["_law_kind","_law_script","_law_begin","_law_marks_here","_law_cells_here"] ["_law_kind","_law_script","_law_begin","_law_marks_here"] (defScope s__law_thing):=⟨rfl,rfl,rfl,by decide +kernel,rfl,by decide +kernel,by decide +kernel⟩
theorem sc__law_spots:FnScope ["_law_form","_law_spots_here","_law_j","_law_k"] ["_law_form"] (defScope s__law_spots):=⟨rfl,rfl,rfl,by decide +kernel,rfl,by decide +kernel,by decide +kernel⟩
theorem sc__law_above:FnScope ["_law_spots_here","_law_early","_law_late","_law_at","_law_depth"] ["_law_spots_here","_law_early","_law_late"] (defScope s__law_above):=⟨rfl,rfl,rfl,by decide +kernel,rfl,by decide +kernel,by decide +kernel⟩
theorem sc__law_pair:FnScope ["_law_kind","_law_spots_here","_law_early","_law_late","_law_one","_law_other","_law_beside","_law_k"] ["_law_kind","_law_spots_here","_law_early","_law_late"] (defScope s__law_pair):=⟨rfl,rfl,rfl,by decide +kernel,rfl,by decide +kernel,by decide +kernel⟩
theorem sc__law_due:FnScope ["_law_form","_law_spots_here","_law_due_here","_law_early","_law_late","_law_found","_law_both","_law_kept"] ["_law_form"] (defScope s__law_due):=⟨rfl,rfl,rfl,by decide +kernel,rfl,by decide +kernel,by decide +kernel⟩
theorem sc_law:FnScope ["_law_script","_law_seed","_law_marks_here","_law_one","_law_form","_law_due_here","_law_asked","_law_at","_law_mark","_law_other","_law_told","_law_answer","_law_wanted"] ["_law_script"] (defScope s_law):=⟨rfl,rfl,rfl,by decide +kernel,rfl,by decide +kernel,by decide +kernel⟩
structure Adr where
  ShrinkError:Addr
  NoThing:Addr
  NoPlace:Addr
  Thing:Addr
  Row:Addr
  Forest:Addr
  Table:Addr
structure Txt (K:PySem.W.Frag) (mg:Str → Option Value) (ad:Adr):Prop where
  all:mg "all" = none
  any:mg "any" = none
  bool:mg "bool" = none
  dict:mg "dict" = none
  enumerate:mg "enumerate" = none
  int:mg "int" = none
  isinstance:mg "isinstance" = none
  len:mg "len" = none
  list:mg "list" = none
  max:mg "max" = none
  min:mg "min" = none
  range:mg "range" = none
  str:mg "str" = none
  tuple:mg "tuple" = none
  zip:mg "zip" = none
  c_ShrinkError:mg "ShrinkError" = some (.ref ad.ShrinkError)
  c_NoThing:mg "NoThing" = some (.ref ad.NoThing)
  c_NoPlace:mg "NoPlace" = some (.ref ad.NoPlace)
  c_Thing:mg "Thing" = some (.ref ad.Thing)
  c_Row:mg "Row" = some (.ref ad.Row)
  c_Forest:mg "Forest" = some (.ref ad.Forest)
  c_Table:mg "Table" = some (.ref ad.Table)
  g_LETTERS:∃ t,mg "LETTERS" = some (.str LET t)
  g_LONGEST_MARK:∃ t,mg "LONGEST_MARK" = some (.int 8 t)
  g_MOST_IN_ROW:∃ t,mg "MOST_IN_ROW" = some (.int 40 t)
  g_MOST_NODES:∃ t,mg "MOST_NODES" = some (.int 40 t)
  g_DEEPEST:∃ t,mg "DEEPEST" = some (.int 12 t)
  g_MOST_LINES:∃ t,mg "MOST_LINES" = some (.int 12 t)
  g_MOST_COLUMNS:∃ t,mg "MOST_COLUMNS" = some (.int 12 t)
  e_NoPlace:ExcCls K mg "NoPlace" ad.NoPlace
  lk_NoPlace:ExcLk K ad.NoPlace
  e_NoThing:ExcCls K mg "NoThing" ad.NoThing
  lk_NoThing:ExcLk K ad.NoThing
  cl_Forest:Cls K ad.Forest
  na_Forest_nodes:NoAttr K ad.Forest "nodes"
  na_Forest_spot_marks:NoAttr K ad.Forest "spot_marks"
  ha_Forest:PySem.W.findIn K (.ref ad.Forest) "__class__" = some (some (.builtin "object.__class__"))
  hm_Forest:PySem.W.mroIn K ad.Forest (.type "object") = some true
  cl_Row:Cls K ad.Row
  na_Row_spot_marks:NoAttr K ad.Row "spot_marks"
  ha_Row:PySem.W.findIn K (.ref ad.Row) "__class__" = some (some (.builtin "object.__class__"))
  hm_Row:PySem.W.mroIn K ad.Row (.type "object") = some true
  cl_Table:Cls K ad.Table
  na_Table_columns:NoAttr K ad.Table "columns"
  na_Table_lines:NoAttr K ad.Table "lines"
  na_Table_spot_marks:NoAttr K ad.Table "spot_marks"
  ha_Table:PySem.W.findIn K (.ref ad.Table) "__class__" = some (some (.builtin "object.__class__"))
  hm_Table:PySem.W.mroIn K ad.Table (.type "object") = some true
  hn:PySem.W.specialIn K (.builtin "object.__class__") "__get__" = some (some (.builtin "getset_descriptor.__get__"))
  htk:PySem.W.takesIn K (.builtin "object.__class__") = some true
def SameBut (p:Addr) (H H':Hp):Prop:=∀ b o,b ≠ p → H b = some o → H' b = some o
def RowObj (ad:Adr) (H:Hp) (p:Addr) (xs:List V):Prop:=∃ dx t,H p = some (.ins ad.Row dx [("spot_marks",.ref t)]) ∧ TupF H t xs ∧ xs.all markV = true ∧ xs.length ≤ 40
def TabObj (ad:Adr) (H:Hp) (p:Addr) (ls:List (List V)) (w:Nat):Prop:=∃ dx t1 t2 ts,H p = some (.ins ad.Table dx [("spot_marks",.ref t1),("lines",.ref t2),("columns",.int w)]) ∧ TupF H t1 ls.flatten ∧ H t2 = some (.tup ts) ∧ RowsAt .tup H ts ls ∧ w ≤ 12 ∧ ls.length ≤ 12 ∧ ∀ l ∈ ls,lineOk w l
theorem RowObj.same {ad:Adr} {H H':Hp} {p:Addr} {xs:List V} (s:Same H H') (r:RowObj ad H p xs):RowObj ad H' p xs:=by
  obtain ⟨dx,t,h1,h2,h3⟩:=r
  exact ⟨dx,t,s _ _ h1,h2.same s,h3⟩
theorem RowObj.keep {ad:Adr} {H H':Hp} {p:Addr} {xs:List V} (s:∀ b o,(∀ zs,o ≠ HO.lst zs) → H b = some o → H' b = some o) (r:RowObj ad H p xs):RowObj ad H' p xs:=by
  obtain ⟨dx,t,h1,h2,h3⟩:=r
  exact ⟨dx,t,s _ (.ins _ _ _) (fun _ z=>nomatch z) h1,h2.keep s,h3⟩
theorem TabObj.keep {ad:Adr} {H H':Hp} {p:Addr} {ls:List (List V)} {w:Nat} (s:∀ b o,(∀ zs,o ≠ HO.lst zs) → H b = some o → H' b = some o) (r:TabObj ad H p ls w):TabObj ad H' p ls w:=by
  obtain ⟨dx,t1,t2,ts,h1,h2,h3,h4,h5⟩:=r
  exact ⟨dx,t1,t2,ts,s _ (.ins _ _ _) (fun _ z=>nomatch z) h1,h2.keep s,s _ (.tup _) (fun _ z=>nomatch z) h3,h4.keep (f:=.tup) fun b ys e=>s b (.tup ys) (fun _ z=>nomatch z) e,h5⟩
theorem TabObj.same {ad:Adr} {H H':Hp} {p:Addr} {ls:List (List V)} {w:Nat} (s:Same H H') (r:TabObj ad H p ls w):TabObj ad H' p ls w:=by
  obtain ⟨dx,t1,t2,ts,h1,h2,h3,h4,h5⟩:=r
  exact ⟨dx,t1,t2,ts,s _ _ h1,h2.same s,s _ _ h3,h4.same s,h5⟩
def sp_Thing_init (ad:Adr):Sp:=fun vs H Q _=>∃ p dx a xs c,vs = [.ref p,.ref a] ∧ (c = ad.Row ∨ c = ad.Table ∨ c = ad.Forest) ∧ H p = some (.ins c dx []) ∧ H a = some (.lst xs) ∧ ∀ t (o:Obj),H t = none → o.cls = .type "tuple" → o.dict = none → Q .non (upd (upd H t (.frz o (.tup xs))) p (.ins c dx [("spot_marks",.ref t)]))
def ForestAt (ad:Adr) (H:Hp) (p:Addr) (ns:List Nd):Prop:=∃ dx t1 t2 xs,H p = some (.ins ad.Forest dx [("spot_marks",.ref t1),("nodes",.ref t2)]) ∧ TupF H t1 (ns.map fun n=>V.str n.1) ∧ H t2 = some (.tup xs) ∧ NodesAt H xs ns
theorem ForestAt.same {ad:Adr} {H H':Hp} {p:Addr} {ns:List Nd} (s:Same H H') (r:ForestAt ad H p ns):ForestAt ad H' p ns:=by
  obtain ⟨dx,t1,t2,xs,h1,h2,h3,h4⟩:=r
  exact ⟨dx,t1,t2,xs,s _ _ h1,h2.same s,s _ _ h3,h4.same s⟩
def sp_Forest_init (ad:Adr):Sp:=fun vs H Q E=>∃ p dx v,vs = [.ref p,v] ∧ H p = some (.ins ad.Forest dx []) ∧ Thg4 H v ∧
  (∀ a xs ns,v = .ref a → H a = some (.lst xs) → xs.length ≤ 40 → NodesAt H xs ns → depthOk 0 ns → ∀ H',ForestAt ad H' p ns → SameBut p H H' → Q .non H') ∧ (¬ GoodN H v → ∀ H',SameBut p H H' → E (.ref ad.NoThing) none H')
def sp_is_whole:Sp:=fun vs H Q _=>∃ v,vs = [v] ∧ Thg H v ∧ Q (.bl (wholeV v)) H
def sp_is_mark:Sp:=fun vs H Q _=>∃ v,vs = [v] ∧ Thg H v ∧ ∀ H',Same H H' → Q (.bl (markV v)) H'
def sp_check_list (ad:Adr):Sp:=fun vs H Q E=>∃ v n,vs = [v,.int (n:Nat)] ∧ Thg H v ∧ (GoodL n H v → Q .non H) ∧ (¬ GoodL n H v → E (.ref ad.NoThing) none H)
def sp_check_marks (ad:Adr):Sp:=fun vs H Q E=>∃ v n,vs = [v,.int (n:Nat)] ∧ Thg2 H v ∧ (GoodM n H v → ∀ H',Same H H' → Q .non H') ∧ (¬ GoodM n H v → ∀ H',Same H H' → E (.ref ad.NoThing) none H')
def sp_check_node (ad:Adr):Sp:=fun vs H Q E=>∃ v d,vs = [v,.int d] ∧ Thg3 H v ∧ (∀ n,NodeAt H v n → markS n.1 = true → 0 ≤ n.2 → n.2 ≤ d → ∀ H',Same H H' → Q .non H') ∧ ((∀ n,NodeAt H v n → ¬ (markS n.1 = true ∧ 0 ≤ n.2 ∧ n.2 ≤ d)) → ∀ H',Same H H' → E (.ref ad.NoThing) none H')
def sp_check_nodes (ad:Adr):Sp:=fun vs H Q E=>∃ v,vs = [v] ∧ Thg4 H v ∧ (GoodN H v → ∀ H',Same H H' → Q .non H') ∧ (¬ GoodN H v → ∀ H',Same H H' → E (.ref ad.NoThing) none H')
def sp_check_lines (ad:Adr):Sp:=fun vs H Q E=>∃ v,vs = [v] ∧ Thg5 H v ∧ (GoodT H v → ∀ H',Same H H' → Q .non H') ∧ (¬ GoodT H v → ∀ H',Same H H' → E (.ref ad.NoThing) none H')
def sp_check_places (ad:Adr):Sp:=fun vs H Q E=>∃ v m,vs = [v,.int m] ∧ Thg2 H v ∧ (GoodP m H v → ∀ H',Same H H' → Q .non H') ∧ (¬ GoodP m H v → ∀ H',Same H H' → E (.ref ad.NoPlace) none H')
def sp_marks_at (K:PySem.W.Frag):Sp:=fun vs H Q _=>∃ (t a:Addr) (xs:List V) (ps:List Int),vs = [.ref t,.ref a] ∧ SqT K H t xs ∧ H a = some (.lst (ps.map V.int)) ∧ (∀ p ∈ ps,0 ≤ p ∧ p < xs.length) ∧ ps.length ≤ 900 ∧ ∀ l,H l = none → Q (.ref l) (upd H l (.lst (ps.map fun p=>xs.getD p.toNat .non)))
def sp_Row_init (ad:Adr):Sp:=fun vs H Q E=>∃ p dx v,vs = [.ref p,v] ∧ H p = some (.ins ad.Row dx []) ∧ Thg2 H v ∧
  (∀ a xs,v = .ref a → H a = some (.lst xs) → xs.length ≤ 40 → xs.all markV = true → ∀ H',RowObj ad H' p xs → SameBut p H H' → Q .non H') ∧ (¬ GoodM 40 H v → ∀ H',SameBut p H H' → E (.ref ad.NoThing) none H')
def sp_Row_many (ad:Adr):Sp:=fun vs H Q _=>∃ p xs,vs = [.ref p] ∧ RowObj ad H p xs ∧ Q (.int xs.length) H
def sp_Row_left (ad:Adr):Sp:=fun vs H Q E=>∃ p v xs,vs = [.ref p,v] ∧ RowObj ad H p xs ∧ Thg2 H v ∧
  (∀ a ps,v = .ref a → H a = some (.lst (ps.map V.int)) → placesOk 0 xs.length ps → ∀ q H',Same H H' → RowObj ad H' q (ps.map fun i=>xs.getD i.toNat .non) → Q (.ref q) H') ∧ (¬ GoodP xs.length H v → ∀ H',Same H H' → E (.ref ad.NoPlace) none H')
def sp_Row_form (ad:Adr):Sp:=fun vs H Q _=>∃ p xs,vs = [.ref p] ∧ RowObj ad H p xs ∧ ∀ t l,TupF H t xs → H l = none → Q (.ref l) (upd H l (.tup [.str "row",.ref t]))
def sp_many (ad:Adr):Sp:=fun vs H Q _=>∃ p ns,vs = [.ref p] ∧ ForestAt ad H p ns ∧ Q (.int ns.length) H
def sp_Forest_left (ad:Adr):Sp:=fun vs H Q E=>∃ (p:Addr) (v:V) (ns:List Nd),vs = [.ref p,v] ∧ ForestAt ad H p ns ∧ depthOk 0 ns ∧ ns.length ≤ 40 ∧ Thg2 H v ∧ (∀ a ps,v = .ref a → H a = some (.lst (ps.map V.int)) → placesOk 0 ns.length ps → ∀ q H',Same H H' → ForestAt ad H' q (leftN ns ps) → Q (.ref q) H') ∧ (¬ GoodP ns.length H v → ∀ H',Same H H' → E (.ref ad.NoPlace) none H')
def sp_form (ad:Adr):Sp:=fun vs H Q _=>∃ p ns,vs = [.ref p] ∧ ForestAt ad H p ns ∧ ∀ t xs l,H t = some (.tup xs) → NodesAt H xs ns → H l = none → Q (.ref l) (upd H l (.tup [.str "forest",.ref t]))
def sp_Table_init (ad:Adr):Sp:=fun vs H Q E=>∃ p dx v,vs = [.ref p,v] ∧ H p = some (.ins ad.Table dx []) ∧ Thg5 H v ∧
  (∀ a xs ls,v = .ref a → H a = some (.lst xs) → xs.length ≤ 12 → RowsAt .lst H xs ls → tabOk ls → ∀ H',TabObj ad H' p ls (wideT ls) → SameBut p H H' → Q .non H') ∧ (¬ GoodT H v → ∀ H',SameBut p H H' → E (.ref ad.NoThing) none H')
def sp_Table_many (ad:Adr):Sp:=fun vs H Q _=>∃ p ls w,vs = [.ref p] ∧ TabObj ad H p ls w ∧ Q (.int ((ls.length:Int) + (w:Int))) H
def sp_Table_left (ad:Adr):Sp:=fun vs H Q E=>∃ p v ls w,vs = [.ref p,v] ∧ TabObj ad H p ls w ∧ Thg2 H v ∧
  (∀ a ps,v = .ref a → H a = some (.lst (ps.map V.int)) → placesOk 0 ((ls.length:Int) + (w:Int)) ps → ∀ q H',Same H H' → TabObj ad H' q (leftT ls ps) (colsOf ls.length ps).length → Q (.ref q) H') ∧ (¬ GoodP ((ls.length:Int) + (w:Int)) H v → ∀ H',Same H H' → E (.ref ad.NoPlace) none H')
def sp_Table_form (ad:Adr):Sp:=fun vs H Q _=>∃ p ls w,vs = [.ref p] ∧ TabObj ad H p ls w ∧ ∀ t xs l,H t = some (.tup xs) → RowsAt .tup H xs ls → H l = none → Q (.ref l) (upd H l (.tup [.str "table",.int w,.ref t]))
def sp__law_cell_at (K:PySem.W.Frag):Sp:=fun vs H Q _=>∃ (a:Addr) (ns:List Int) (k:Nat),vs = [.ref a,.int k] ∧ SqL K H a (ns.map V.int) ∧ Q (.int (cellF ns k)) H
def sp__law_mix:Sp:=fun vs H Q _=>∃ (seed k:Int),vs = [.int seed,.int k] ∧ 0 ≤ k ∧ k ≤ 1000 ∧ Q (.int (mixF seed k)) H
def sp__law_how_many:Sp:=fun vs H Q _=>∃ n:Int,vs = [.int n] ∧ ∀ m:Int,1 ≤ m → m ≤ 25 → Q (.int m) H
def sp__law_marks:Sp:=fun vs H Q _=>∃ (c n:Int),vs = [.int c,.int n] ∧ 0 ≤ n ∧ n ≤ 26 ∧ ∀ (zs:List Str) l H',zs.length = n.toNat → (∀ z ∈ zs,markS z = true) → Same H H' → H' l = some (.lst (zs.map V.str)) → Q (.ref l) H'
def sp__law_pick:Sp:=fun vs H Q _=>∃ (c:Int) (a:Addr) (zs:List Str),vs = [.int c,.ref a] ∧ H a = some (.lst (zs.map V.str)) ∧ 0 < zs.length ∧ ∀ z ∈ zs,Q (.str z) H
def sp__law_cells (K:PySem.W.Frag):Sp:=fun vs H Q _=>∃ (a:Addr) (ns:List Int) (b s:Int),vs = [.ref a,.int b,.int s,.int 40] ∧ 0 ≤ b ∧ SqL K H a (ns.map V.int) ∧ ∀ (ms:List Int) l H',ms.length ≤ 40 → Same H H' → H' l = some (.lst (ms.map V.int)) → Q (.ref l) H'
def sp__law_nodes:Sp:=fun vs H Q _=>∃ (c m:Addr) (ms:List Int) (zs:List Str),vs = [.ref c,.ref m] ∧ H c = some (.lst (ms.map V.int)) ∧ H m = some (.lst (zs.map V.str)) ∧ ms.length ≤ 40 ∧ 0 < zs.length ∧ (∀ z ∈ zs,markS z = true) ∧ ∀ ns xs l H',Same H H' → H' l = some (.lst xs) → NodesAt H' xs ns → depthOk 0 ns → ns.length ≤ 40 → Q (.ref l) H'
def sp__law_lines:Sp:=fun vs H Q _=>∃ (c m:Addr) (ms:List Int) (zs:List Str) (w:Nat),vs = [.ref c,.ref m,.int w] ∧ H c = some (.lst (ms.map V.int)) ∧ H m = some (.lst (zs.map V.str)) ∧ w ≤ 12 ∧ ms.length ≤ 900 ∧ 0 < zs.length ∧ (∀ z ∈ zs,markS z = true) ∧ ∀ ls xs l H',Same H H' → H' l = some (.lst xs) → RowsAt .lst H' xs ls → ls.length ≤ 12 → tabOk ls → Q (.ref l) H'
def sp__law_some:Sp:=fun vs H Q _=>∃ (c:Int) (n:Nat),vs = [.int c,.int n] ∧ n ≤ 900 ∧ ∀ ps l H',Same H H' → H' l = some (.lst (ps.map V.int)) → placesOk 0 n ps → Q (.ref l) H'
def sp__law_table_by (K:PySem.W.Frag):Sp:=fun vs H Q _=>∃ (a m:Addr) (ns:List Int) (b:Nat) (zs:List Str),vs = [.ref a,.int b,.ref m] ∧ SqL K H a (ns.map V.int) ∧ ns.length ≤ 63 ∧ H m = some (.lst (zs.map V.str)) ∧ 0 < zs.length ∧ (∀ z ∈ zs,markS z = true) ∧ ∀ ls xs l H',Same H H' → H' l = some (.lst xs) → RowsAt .lst H' xs ls → ls.length ≤ 12 → tabOk ls → Q (.ref l) H'
inductive Dsc where
  | row (xs:List V)
  | forest (ns:List Nd)
  | table (ls:List (List V)) (w:Nat)
def ThObj (ad:Adr) (H:Hp) (p:Addr):Dsc → Prop
  | .row xs=>RowObj ad H p xs
  | .forest ns=>ForestAt ad H p ns ∧ depthOk 0 ns ∧ ns.length ≤ 40
  | .table ls w=>TabObj ad H p ls w
def manyD:Dsc → Nat
  | .row xs=>xs.length
  | .forest ns=>ns.length
  | .table ls w=>ls.length + w
def leftD:Dsc → List Int → Dsc
  | .row xs,ps=>.row (leftR xs ps)
  | .forest ns,ps=>.forest (leftN ns ps)
  | .table ls _,ps=>.table (leftT ls ps) (colsOf ls.length ps).length
theorem ThObj.same {ad:Adr} {H H':Hp} {p:Addr} {d:Dsc} (s:Same H H') (h:ThObj ad H p d):ThObj ad H' p d:=by
  cases d with
  | row xs=>exact RowObj.same s h
  | forest ns=>exact ⟨h.1.same s,h.2⟩
  | table ls w=>exact TabObj.same s h
theorem ThObj.keep {ad:Adr} {H H':Hp} {p:Addr} {d:Dsc} (s:∀ b o,(∀ zs,o ≠ HO.lst zs) → H b = some o → H' b = some o) (h:ThObj ad H p d):ThObj ad H' p d:=by
  cases d with
  | row xs=>exact RowObj.keep s h
  | forest ns =>
    obtain ⟨⟨dx,t1,t2,xs,h1,h2,h3,h4⟩,h5⟩:=h
    exact ⟨⟨dx,t1,t2,xs,s _ (.ins _ _ _) (fun _ z=>nomatch z) h1,h2.keep s,s _ (.tup _) (fun _ z=>nomatch z) h3,h4.tups fun b ys e=>s b (.tup ys) (fun _ z=>nomatch z) e⟩,h5⟩
  | table ls w=>exact TabObj.keep s h
def DOk:Dsc → Prop
  | .row xs=>xs.all markV = true ∧ xs.length ≤ 40
  | .forest ns=>depthOk 0 ns ∧ ns.length ≤ 40
  | .table ls w=>w ≤ 12 ∧ ls.length ≤ 12 ∧ ∀ l ∈ ls,lineOk w l
theorem ThObj.ok {ad:Adr} {H:Hp} {p:Addr} {d:Dsc} (h:ThObj ad H p d):DOk d:=by
  cases d with
  | row xs=>obtain ⟨_,_,_,_,h3⟩:=h; exact h3
  | forest ns=>exact h.2
  | table ls w=>obtain ⟨_,_,_,_,_,_,_,_,h5⟩:=h; exact h5
theorem DOk.many {d:Dsc} (h:DOk d):manyD d ≤ 40:=by
  cases d with
  | row xs=>exact h.2
  | forest ns=>exact h.2
  | table ls w=>have:=h.1; have:=h.2.1; show ls.length + w ≤ 40; omega
def FormAt (H:Hp) (f:Addr):Dsc → Prop
  | .row xs=>∃ t,H f = some (.tup [.str "row",.ref t]) ∧ TupF H t xs
  | .forest ns=>∃ t ys,H f = some (.tup [.str "forest",.ref t]) ∧ H t = some (.tup ys) ∧ NodesAt H ys ns
  | .table ls w=>∃ t ts,H f = some (.tup [.str "table",.int w,.ref t]) ∧ H t = some (.tup ts) ∧ RowsAt .tup H ts ls
theorem FormAt.same {H H':Hp} {f:Addr} {d:Dsc} (s:Same H H') (h:FormAt H f d):FormAt H' f d:=by
  cases d with
  | row xs=>obtain ⟨t,h1,h2⟩:=h; exact ⟨t,s _ _ h1,h2.same s⟩
  | forest ns=>obtain ⟨t,ys,h1,h2,h3⟩:=h; exact ⟨t,ys,s _ _ h1,s _ _ h2,h3.same s⟩
  | table ls w=>obtain ⟨t,ts,h1,h2,h3⟩:=h; exact ⟨t,ts,s _ _ h1,s _ _ h2,h3.same s⟩
def datD:Dsc → PyData
  | .row xs=>.tuple [.str "row",.tuple (xs.map datM)]
  | .forest ns=>.tuple [.str "forest",.tuple (datN ns)]
  | .table ls w=>.tuple [.str "table",.int w,.tuple (ls.map fun l=>PyData.tuple (l.map datM))]
theorem FormAt.dat {K:PySem.W.Frag} {H:Hp} {f:Addr} {d:Dsc} (o:DOk d) (h:FormAt H f d):DatV K H (.ref f) (datD d):=by
  cases d with
  | row xs=>obtain ⟨t,h1,h2⟩:=h; exact .tup (SqT.of h1) (.cons (.str _) (.cons (.tup h2.sq (datVs_marks o.1)) .nil))
  | forest ns=>obtain ⟨t,ys,h1,h2,h3⟩:=h; exact .tup (SqT.of h1) (.cons (.str _) (.cons (.tup (SqT.of h2) h3.dat) .nil))
  | table ls w=>obtain ⟨t,ts,h1,h2,h3⟩:=h; exact .tup (SqT.of h1) (.cons (.str _) (.cons (.int _) (.cons (.tup (SqT.of h2) (h3.datT fun l hl=>(o.2.2 l hl).2)) .nil)))
theorem lay_dat {d:Dsc} (o:DOk d):PyData.canLay0 (datD d) = true:=by
  cases d with
  | row xs =>
    have cF:=canLay_marks o.1
    unfold datD
    simp only [PyData.canLay0,PyData.canLayAll0,cF]
    decide +kernel
  | forest ns =>
    have cN:=canLay_nodes (ns:=ns) fun n h=>mark_strOk (depthOk_all o.1 n h).1
    unfold datD
    simp only [PyData.canLay0,PyData.canLayAll0,cN]
    decide +kernel
  | table ls w =>
    have cT:=canLay_tups (ls:=ls) fun l hl=>(o.2.2 l hl).2
    unfold datD
    simp only [PyData.canLay0,PyData.canLayAll0,cT]
    decide +kernel
theorem shaped_dat {d:Dsc} (o:DOk d):SeqAt.shaped (datD d) = true:=by
  unfold SeqAt.shaped
  rw [Bool.and_eq_true]
  refine ⟨lay_dat o,decide_eq_true ?_⟩
  cases d with
  | row xs=>have:=depth_marks xs; simp only [datD,PyData.depth,PyData.depthAll]; omega
  | forest ns=>have:=depth_nodes ns; simp only [datD,PyData.depth,PyData.depthAll]; omega
  | table ls w=>have:=depth_tups ls; simp only [datD,PyData.depth,PyData.depthAll]; omega
theorem eqv_dat {d:Dsc} (o:DOk d):PyData.eqv (datD d) (datD d) = true:=SeqAt.eqv_refl _ (lay_dat o)
theorem any_many {ad:Adr} {H:Hp} {p:Addr} {d:Dsc} {Q:VK} {E:XK} (h:ThObj ad H p d) (k:Q (.int (manyD d:Nat)) H) :
    ((∃ x y,H p = some (.ins ad.Row x y) ∧ List.lookup (Str.ofString "many") y = none ∧ sp_Row_many ad [.ref p] H Q E) ∨ ∃ x y,H p = some (.ins ad.Forest x y) ∧ List.lookup (Str.ofString "many") y = none ∧ sp_many ad [.ref p] H Q E) ∨ ∃ x y,H p = some (.ins ad.Table x y) ∧ List.lookup (Str.ofString "many") y = none ∧ sp_Table_many ad [.ref p] H Q E:=by
  cases d with
  | row xs=>obtain ⟨dx,t,h1,_⟩:=id h; exact .inl (.inl ⟨dx,_,h1,rfl,p,xs,rfl,h,k⟩)
  | forest ns=>obtain ⟨⟨dx,t1,t2,xs,h1,_⟩,_⟩:=id h; exact .inl (.inr ⟨dx,_,h1,lookup_no (by decide +kernel) (by decide +kernel),p,ns,rfl,h.1,k⟩)
  | table ls w =>
    obtain ⟨dx,t1,t2,ts,h1,_⟩:=id h
    refine .inr ⟨dx,_,h1,lookup_no3 (by decide +kernel) (by decide +kernel) (by decide +kernel),p,ls,w,rfl,h,?_⟩
    have e:((manyD (.table ls w):Nat):Int) = (ls.length:Int) + (w:Int):=by show ((ls.length + w:Nat):Int) = _; omega
    rw [← e]
    exact k
theorem any_form {ad:Adr} {H:Hp} {p:Addr} {d:Dsc} {Q:VK} {E:XK} (h:ThObj ad H p d) (k:∀ f H',Same H H' → FormAt H' f d → Q (.ref f) H') :
    ((∃ x y,H p = some (.ins ad.Row x y) ∧ List.lookup (Str.ofString "form") y = none ∧ sp_Row_form ad [.ref p] H Q E) ∨ ∃ x y,H p = some (.ins ad.Forest x y) ∧ List.lookup (Str.ofString "form") y = none ∧ sp_form ad [.ref p] H Q E) ∨ ∃ x y,H p = some (.ins ad.Table x y) ∧ List.lookup (Str.ofString "form") y = none ∧ sp_Table_form ad [.ref p] H Q E:=by
  cases d with
  | row xs=>obtain ⟨dx,t,h1,_⟩:=id h; exact .inl (.inl ⟨dx,_,h1,rfl,p,xs,rfl,h,fun t l ht hl=>k l _ (Same.put hl) ⟨t,upd_same,ht.same (Same.put hl)⟩⟩)
  | forest ns=>obtain ⟨⟨dx,t1,t2,xs,h1,_⟩,_⟩:=id h; exact .inl (.inr ⟨dx,_,h1,lookup_no (by decide +kernel) (by decide +kernel),p,ns,rfl,h.1,fun t xs l ht hx hl=>k l _ (Same.put hl) ⟨t,xs,upd_same,(Same.put hl) _ _ ht,hx.same (Same.put hl)⟩⟩)
  | table ls w=>obtain ⟨dx,t1,t2,ts,h1,_⟩:=id h; exact .inr ⟨dx,_,h1,lookup_no3 (by decide +kernel) (by decide +kernel) (by decide +kernel),p,ls,w,rfl,h,fun t xs l ht hx hl=>k l _ (Same.put hl) ⟨t,xs,upd_same,(Same.put hl) _ _ ht,hx.same (Same.put hl)⟩⟩
theorem left_DOk {d:Dsc} {ps:List Int} (o:DOk d) (hp:placesOk 0 (manyD d:Nat) ps):manyD (leftD d ps) = ps.length:=by
  cases d with
  | row xs=>exact List.length_map _
  | forest ns=>exact List.length_map _
  | table ls w=>show (leftT ls ps).length + (colsOf ls.length ps).length = ps.length; rw [leftT_len]; exact part_len ps
theorem any_left {ad:Adr} {H:Hp} {p:Addr} {d:Dsc} {ps:List Int} {Q:VK} {E:XK} (A:(V → Hp → Prop) → Prop) (h:ThObj ad H p d) (hp:placesOk 0 (manyD d:Nat) ps) (hA:∀ F:V → Hp → Prop,(∀ l H1,Same H H1 → H1 l = some (.lst (ps.map V.int)) → F (.ref l) H1) → A F) (k:∀ q H',Same H H' → ThObj ad H' q (leftD d ps) → Q (.ref q) H') :
    ((∃ x y,H p = some (.ins ad.Row x y) ∧ List.lookup (Str.ofString "left") y = none ∧ A fun v H1=>sp_Row_left ad [.ref p,v] H1 Q E) ∨ ∃ x y,H p = some (.ins ad.Forest x y) ∧ List.lookup (Str.ofString "left") y = none ∧ A fun v H1=>sp_Forest_left ad [.ref p,v] H1 Q E) ∨ ∃ x y,H p = some (.ins ad.Table x y) ∧ List.lookup (Str.ofString "left") y = none ∧ A fun v H1=>sp_Table_left ad [.ref p,v] H1 Q E:=by
  have inj:∀ {H1:Hp} {l a:Addr} {qs:List Int},H1 l = some (.lst (ps.map V.int)) → V.ref l = .ref a → H1 a = some (.lst (qs.map V.int)) → qs = ps:=fun hl e g=>by
    cases e
    rw [hl] at g
    exact (map_int_inj (HO.lst.inj (Option.some.inj g))).symm
  cases d with
  | row xs =>
    obtain ⟨dx,t,h1,_⟩:=id h
    exact .inl (.inl ⟨dx,_,h1,rfl,hA _ fun l H1 s1 hl=>⟨p,.ref l,xs,rfl,RowObj.same s1 h,thg2_ints hl,fun a qs e g _ q H' s r=>k q H' (s1.trans s) (by have:=inj hl e g; subst this; exact r),fun nb=>absurd ⟨l,ps,rfl,hl,hp⟩ nb⟩⟩)
  | forest ns =>
    obtain ⟨⟨dx,t1,t2,xs,h1,_⟩,o1,o2⟩:=id h
    have hp':placesOk 0 (ns.length:Int) ps:=hp
    have lps:=places_len hp' (by omega)
    exact .inl (.inr ⟨dx,_,h1,lookup_no (by decide +kernel) (by decide +kernel),hA _ fun l H1 s1 hl=>⟨p,.ref l,ns,rfl,h.1.same s1,o1,o2,thg2_ints hl,fun a qs e g _ q H' s r=>k q H' (s1.trans s) (by have:=inj hl e g; subst this; exact ⟨r,left_ok o1 hp',by unfold leftN; rw [List.length_map]; omega⟩),fun nb=>absurd ⟨l,ps,rfl,hl,hp⟩ nb⟩⟩)
  | table ls w =>
    obtain ⟨dx,t1,t2,ts,h1,_⟩:=id h
    have e:((manyD (.table ls w):Nat):Int) = (ls.length:Int) + (w:Int):=by show ((ls.length + w:Nat):Int) = _; omega
    rw [e] at hp
    exact .inr ⟨dx,_,h1,lookup_no3 (by decide +kernel) (by decide +kernel) (by decide +kernel),hA _ fun l H1 s1 hl=>⟨p,.ref l,ls,w,rfl,TabObj.same s1 h,thg2_ints hl,fun a qs e g _ q H' s r=>k q H' (s1.trans s) (by have:=inj hl e g; subst this; exact r),fun nb=>absurd ⟨l,ps,rfl,hl,hp⟩ nb⟩⟩
def LeftOr (ad:Adr) (H:Hp) (p:Addr) (A:(V → Hp → Prop) → Prop) (F:VK) (E:XK):Prop :=
    ((∃ x y,H p = some (.ins ad.Row x y) ∧ List.lookup (Str.ofString "left") y = none ∧ A fun v H1=>sp_Row_left ad [.ref p,v] H1 F E) ∨ ∃ x y,H p = some (.ins ad.Forest x y) ∧ List.lookup (Str.ofString "left") y = none ∧ A fun v H1=>sp_Forest_left ad [.ref p,v] H1 F E) ∨ ∃ x y,H p = some (.ins ad.Table x y) ∧ List.lookup (Str.ofString "left") y = none ∧ A fun v H1=>sp_Table_left ad [.ref p,v] H1 F E
theorem any_lf {ad:Adr} {H:Hp} {p:Addr} {d:Dsc} {ps:List Int} {Q:VK} {E E':XK} (A:(V → Hp → Prop) → Prop) (h:ThObj ad H p d) (hp:placesOk 0 (manyD d:Nat) ps) (hA:∀ F:V → Hp → Prop,(∀ l H1,Same H H1 → H1 l = some (.lst (ps.map V.int)) → F (.ref l) H1) → A F) (k:∀ f H',Same H H' → FormAt H' f (leftD d ps) → DOk (leftD d ps) → Q (.ref f) H') :
    (LeftOr ad H p A (fun x H1=>∃ a,x = .ref a ∧ ∃ y z,H1 a = some (.ins ad.Row y z) ∧ List.lookup (Str.ofString "form") z = none ∧ sp_Row_form ad [x] H1 Q E) E' ∨ LeftOr ad H p A (fun x H1=>∃ a,x = .ref a ∧ ∃ y z,H1 a = some (.ins ad.Forest y z) ∧ List.lookup (Str.ofString "form") z = none ∧ sp_form ad [x] H1 Q E) E') ∨ LeftOr ad H p A (fun x H1=>∃ a,x = .ref a ∧ ∃ y z,H1 a = some (.ins ad.Table y z) ∧ List.lookup (Str.ofString "form") z = none ∧ sp_Table_form ad [x] H1 Q E) E':=by
  cases d with
  | row xs =>
    refine .inl (.inl (any_left A h hp hA fun q H' s hq=>?_))
    obtain ⟨dx,t,h1,_⟩:=id hq
    exact ⟨q,rfl,dx,_,h1,rfl,q,_,rfl,hq,fun t l ht hl=>k l _ (s.trans (Same.put hl)) ⟨t,upd_same,ht.same (Same.put hl)⟩ hq.ok⟩
  | forest ns =>
    refine .inl (.inr (any_left A h hp hA fun q H' s hq=>?_))
    obtain ⟨⟨dx,t1,t2,xs,h1,_⟩,_⟩:=id hq
    exact ⟨q,rfl,dx,_,h1,lookup_no (by decide +kernel) (by decide +kernel),q,_,rfl,hq.1,fun t xs l ht hx hl=>k l _ (s.trans (Same.put hl)) ⟨t,xs,upd_same,(Same.put hl) _ _ ht,hx.same (Same.put hl)⟩ hq.ok⟩
  | table ls w =>
    refine .inr (any_left A h hp hA fun q H' s hq=>?_)
    obtain ⟨dx,t1,t2,ts,h1,_⟩:=id hq
    exact ⟨q,rfl,dx,_,h1,lookup_no3 (by decide +kernel) (by decide +kernel) (by decide +kernel),q,_,_,rfl,hq,fun t xs l ht hx hl=>k l _ (s.trans (Same.put hl)) ⟨t,xs,upd_same,(Same.put hl) _ _ ht,hx.same (Same.put hl)⟩ hq.ok⟩
def ArgL (K:PySem.W.Frag) (H:Hp) (lp:Addr) (F:V → Hp → Prop):Prop:=∃ z,SqL K H lp z ∧ ∀ l,H l = none → F (.ref l) (upd H l (.lst z))
theorem argL {K:PySem.W.Frag} {H:Hp} {lp:Addr} {ps:List Int} (h:H lp = some (.lst (ps.map V.int))):∀ F:V → Hp → Prop,(∀ l H1,Same H H1 → H1 l = some (.lst (ps.map V.int)) → F (.ref l) H1) → ArgL K H lp F:=fun F k=>⟨_,SqL.of h,fun l hl=>k l _ (Same.put hl) upd_same⟩
def RngL (H1:Hp) (n:Int) (F:V → Hp → Prop):Prop:=∀ r,H1 r = none → ∃ x y,upd H1 r (.rng 0 n) r = some (.rng x y) ∧ -2 ^ 62 ≤ x ∧ x < 2 ^ 62 ∧ -2 ^ 62 ≤ y ∧ y < 2 ^ 62 ∧ (y - x).toNat ≤ 900 ∧ ∀ l,upd H1 r (.rng 0 n) l = none → F (.ref l) (upd (upd H1 r (.rng 0 n)) l (.lst (((List.range (y - x).toNat).map fun i:Nat=>x + (i:Int)).map V.int)))
theorem rngL {H H1:Hp} {n:Nat} {F:V → Hp → Prop} (s:Same H H1) (hn:n ≤ 900) (k:∀ l H2,Same H H2 → H2 l = some (.lst ((SH.upTo n).map V.int)) → F (.ref l) H2):RngL H1 n F:=fun r hr=>by
  refine ⟨0,n,upd_same,by omega,by omega,by omega,by omega,by omega,fun l hl=>?_⟩
  rw [show ((n:Int) - 0).toNat = n by omega]
  exact k l _ ((s.upd hr).upd hl) upd_same
def ArgM (ad:Adr) (H:Hp) (p:Addr) (E:XK) (F:V → Hp → Prop):Prop :=
    ((∃ x y,H p = some (.ins ad.Row x y) ∧ List.lookup (Str.ofString "many") y = none ∧ sp_Row_many ad [.ref p] H (fun x H1=>∃ n,x = .int n ∧ RngL H1 n F) E) ∨ ∃ x y,H p = some (.ins ad.Forest x y) ∧ List.lookup (Str.ofString "many") y = none ∧ sp_many ad [.ref p] H (fun x H1=>∃ n,x = .int n ∧ RngL H1 n F) E) ∨ ∃ x y,H p = some (.ins ad.Table x y) ∧ List.lookup (Str.ofString "many") y = none ∧ sp_Table_many ad [.ref p] H (fun x H1=>∃ n,x = .int n ∧ RngL H1 n F) E
theorem argM {ad:Adr} {H:Hp} {p:Addr} {d:Dsc} {E:XK} (h:ThObj ad H p d):∀ F:V → Hp → Prop,(∀ l H1,Same H H1 → H1 l = some (.lst ((SH.upTo (manyD d)).map V.int)) → F (.ref l) H1) → ArgM ad H p E F:=fun F k =>
  any_many h ⟨_,rfl,rngL (Same.refl H) (by have:=h.ok.many; omega) k⟩
def ArgN (K:PySem.W.Frag) (H:Hp) (lp:Addr) (F:V → Hp → Prop):Prop:=∃ z,SqL K H lp z ∧ RngL H (z.length:Nat) F
theorem argN {K:PySem.W.Frag} {H:Hp} {lp:Addr} {ps:List Int} (hl:ps.length ≤ 900) (h:H lp = some (.lst (ps.map V.int))):∀ F:V → Hp → Prop,(∀ l H1,Same H H1 → H1 l = some (.lst ((SH.upTo ps.length).map V.int)) → F (.ref l) H1) → ArgN K H lp F:=fun F k =>
  ⟨_,SqL.of h,by rw [List.length_map]; exact rngL (Same.refl H) hl k⟩
theorem leftD_both {d:Dsc} {ps qs:List Int} (o:DOk d) (hp:placesOk 0 (manyD d:Nat) ps) (hq:placesOk 0 ps.length qs):leftD (leftD d ps) qs = leftD d (both ps qs):=by
  cases d with
  | row xs=>exact congrArg Dsc.row (leftR_both hq)
  | forest ns=>exact congrArg Dsc.forest (leftN_both o.1 hp hq)
  | table ls w =>
    obtain ⟨e1,e2⟩:=leftT_both (ls:=ls) hp hq
    show Dsc.table (leftT (leftT ls ps) qs) (colsOf (leftT ls ps).length qs).length = Dsc.table (leftT ls (both ps qs)) (colsOf ls.length (both ps qs)).length
    rw [e1,e2]
theorem leftD_all {d:Dsc} (o:DOk d):leftD d (SH.upTo (manyD d)) = d:=by
  cases d with
  | row xs=>exact congrArg Dsc.row (leftR_all xs)
  | forest ns=>exact congrArg Dsc.forest (leftN_all o.1)
  | table ls w =>
    show Dsc.table (leftT ls (SH.upTo (ls.length + w))) (colsOf ls.length (SH.upTo (ls.length + w))).length = _
    rw [leftT_all fun l hl=>(o.2.2 l hl).1,cols_upTo,upTo_len]
def spotsD:Dsc → List V
  | .row xs=>xs
  | .forest ns=>ns.map fun n=>V.str n.1
  | .table ls _=>ls.flatten
def countD (d:Dsc) (m:Str):Nat:=(spotsD d).countP (isM m)
def standD (d:Dsc) (m:Str):List Int:=match d with
  | .row xs=>idxs (isM m) 0 xs
  | .forest ns=>idxs (isM m) 0 (ns.map fun n=>V.str n.1)
  | .table ls _=>idxs (fun l=>inV (.str m) l) 0 ls
def tailN (ns:List Nd) (k:Nat):Nat:=((ns.drop (k + 1)).takeWhile fun n=>decide ((ns.getD k ("",0)).2 < n.2)).length
def hangN (ns:List Nd) (k:Nat):List Int:=(List.range (tailN ns k + 1)).map fun i:Nat=>(k:Int) + (i:Int)
def hangD (d:Dsc) (k:Nat):List Int:=match d with
  | .forest ns=>hangN ns k
  | _=>[(k:Int)]
theorem tw_lt {α:Type} {P:α → Bool}:∀ {l:List α} {j:Nat},j < (l.takeWhile P).length → ∃ x,l[j]? = some x ∧ P x = true
  | [],j,h=>by simp at h
  | x :: l,j,h=>by
    rw [List.takeWhile_cons] at h
    cases hx:P x with
    | false=>rw [hx] at h; simp at h
    | true =>
      rw [hx] at h
      cases j with
      | zero=>exact ⟨x,rfl,hx⟩
      | succ j=>exact tw_lt (l:=l) (by simpa using h)
theorem tw_stop {α:Type} {P:α → Bool}:∀ {l:List α} {x:α},l[(l.takeWhile P).length]? = some x → P x = false
  | [],x,h=>by simp at h
  | y :: l,x,h=>by
    rw [List.takeWhile_cons] at h
    cases hy:P y with
    | false=>rw [hy] at h; simp at h; rw [← h]; exact hy
    | true=>rw [hy] at h; exact tw_stop (l:=l) (by simpa using h)
theorem tail_lt {ns:List Nd} {k j:Nat} (h:j < tailN ns k):∃ n,ns[k + 1 + j]? = some n ∧ (ns.getD k ("",0)).2 < n.2:=by
  obtain ⟨n,h1,h2⟩:=tw_lt h
  rw [List.getElem?_drop] at h1
  exact ⟨n,h1,of_decide_eq_true h2⟩
theorem tail_stop {ns:List Nd} {k:Nat} {n:Nd} (h:ns[k + 1 + tailN ns k]? = some n):¬ (ns.getD k ("",0)).2 < n.2:=by
  have h1:=tw_stop (l:=ns.drop (k + 1)) (P:=fun n=>decide ((ns.getD k ("",0)).2 < n.2)) (x:=n) (by rw [List.getElem?_drop]; exact h)
  exact of_decide_eq_false h1
theorem tail_le (ns:List Nd) (k:Nat):tailN ns k ≤ ns.length - (k + 1):=by
  unfold tailN
  refine Nat.le_trans (List.takeWhile_sublist _).length_le ?_
  rw [List.length_drop]
  exact Nat.le_refl _
theorem stand_le {d:Dsc} (o:DOk d) (m:Str):(standD d m).length ≤ 40:=by
  cases d with
  | row xs=>have:=idxs_le (isM m) xs 0; have:=o.2; show (idxs (isM m) 0 xs).length ≤ 40; omega
  | forest ns =>
    have h:=idxs_le (isM m) (ns.map fun n=>V.str n.1) 0
    rw [List.length_map] at h
    have:=o.2
    show (idxs (isM m) 0 (ns.map fun n=>V.str n.1)).length ≤ 40
    omega
  | table ls w=>have:=idxs_le (fun l=>inV (.str m) l) ls 0; have:=o.2.1; show (idxs (fun l=>inV (.str m) l) 0 ls).length ≤ 40; omega
theorem hang_le {d:Dsc} (o:DOk d) (k:Nat):(hangD d k).length ≤ 41:=by
  cases d with
  | row xs=>show 1 ≤ 41; decide
  | forest ns =>
    have:=tail_le ns k
    have:=o.2
    show ((List.range (tailN ns k + 1)).map fun i:Nat=>(k:Int) + (i:Int)).length ≤ 41
    rw [List.length_map,List.length_range]
    omega
  | table ls w=>show 1 ≤ 41; decide
theorem flat_marks2 {xs:List V} (h:xs.all markV = true):xs.all flatV = true:=by
  rw [List.all_eq_true] at h ⊢
  intro x hx
  have:=h x hx
  cases x with
  | str z=>rfl
  | _=>exact nomatch (show false = true from this)
theorem mark_str {x:V} (h:markV x = true):∃ z,x = .str z:=by
  cases x with
  | str z=>exact ⟨z,rfl⟩
  | _=>exact nomatch (show false = true from h)
theorem mem_idxs {α:Type} {P:α → Bool}:∀ {xs:List α} {k:Nat} {p:Int},p ∈ idxs P k xs ↔ ∃ n x,p = ((k + n:Nat):Int) ∧ xs[n]? = some x ∧ P x = true
  | [],k,p=>by
    constructor
    · intro h
      exact nomatch (show p ∈ ([]:List Int) from h)
    · rintro ⟨n,x,_,h,_⟩
      simp at h
  | x :: xs,k,p=>by
    show p ∈ (if P x then [(k:Int)] else []) ++ idxs P (k + 1) xs ↔ _
    rw [List.mem_append,mem_idxs (xs:=xs)]
    constructor
    · rintro (h | ⟨n,y,h1,h2,h3⟩)
      · cases hx:P x with
        | false=>rw [hx] at h; simp at h
        | true=>rw [hx] at h; simp at h; exact ⟨0,x,by rw [h,Nat.add_zero],rfl,hx⟩
      · exact ⟨n + 1,y,by rw [h1,show k + 1 + n = k + (n + 1) by omega],h2,h3⟩
    · rintro ⟨n,y,h1,h2,h3⟩
      cases n with
      | zero =>
        have h2':some x = some y:=h2
        cases h2'
        exact .inl (by rw [h3,if_pos rfl,h1,Nat.add_zero]; simp)
      | succ n=>exact .inr ⟨n,y,by rw [h1,show k + 1 + n = k + (n + 1) by omega],h2,h3⟩
theorem any_take_more {α:Type} {f:α → Bool} {xs:List α} {i:Nat} {x:α} (hx:xs[i]? = some x) (h:(xs.take i).any f = false) (hf:f x = false):(xs.take (i + 1)).any f = false:=by
  rw [List.take_add_one,hx,List.any_append,h]
  show (false || (f x || false)) = false
  rw [hf]
  rfl
theorem tYes_in {σ:St} {H:Hp} {A B:Hp → Prop} (h:A H):tYes σ H fun b H3=>if b = true then A H3 else B H3:=by
  show if (true:Bool) = true then A H else B H
  rw [if_pos rfl]
  exact h
theorem isM_str (m z:Str):isM m (.str z) = decide (z = m):=by
  show (z == m) = decide (z = m)
  by_cases h:z = m <;> simp [h]
theorem rdSame {H H':Hp} {a:Addr} {u:HO} (s:Same H H') (h:Rd H a u):Rd H' a u:=h.elim (fun h=>.inl (s _ _ h)) fun ⟨o,h⟩=>.inr ⟨o,s _ _ h⟩
theorem split_it {wi:TI} {σ:St} {H:Hp} {G:It → Hp → Prop} (S:It → Hp → Prop) (h:∀ G':It → Hp → Prop,(∀ J H1,S J H1 → G' J H1) → wi σ H G') (g:∀ J H1,S J H1 → G J H1):wi σ H G:=h _ g
def aheadB (one other:Str):List V → Bool
  | []=>false
  | x :: xs=>(isM one x && xs.any (isM other)) || aheadB one other xs
theorem aheadB_append (one other:Str):∀ xs ys:List V,aheadB one other (xs ++ ys) = (aheadB one other xs || (xs.any (isM one) && ys.any (isM other)) || aheadB one other ys)
  | [],ys=>by simp [aheadB]
  | x :: xs,ys=>by
    show ((isM one x && (xs ++ ys).any (isM other)) || aheadB one other (xs ++ ys)) = (((isM one x && xs.any (isM other)) || aheadB one other xs) || ((x :: xs).any (isM one) && ys.any (isM other)) || aheadB one other ys)
    rw [aheadB_append one other xs ys,List.any_append,List.any_cons]
    cases isM one x <;> cases xs.any (isM other) <;> cases ys.any (isM other) <;> cases aheadB one other xs <;> cases xs.any (isM one) <;> cases aheadB one other ys <;> rfl
def nextB (one other:Str) (xs:List V):Bool:=(xs.zip (xs.drop 1)).any fun p=>isM one p.1 && isM other p.2
def namesN (ns:List Nd):List V:=ns.map fun n=>V.str n.1
theorem namesN_get {ns:List Nd} {n:Nat} (h:n < ns.length):(namesN ns).getD n .non = .str (ns.getD n ("",0)).1:=by
  unfold namesN
  rw [List.getD_eq_getElem?_getD,List.getElem?_map,List.getD_eq_getElem?_getD,List.getElem?_eq_getElem h]
  rfl
theorem hang_mem {ns:List Nd} {k:Nat} {q:Int} (hk:k < ns.length) (h:q ∈ hangN ns k):∃ i:Nat,q = ((k + i:Nat):Int) ∧ i ≤ tailN ns k ∧ k + i < ns.length:=by
  unfold hangN at h
  obtain ⟨i,hi,rfl⟩:=List.mem_map.mp h
  have:=List.mem_range.mp hi
  have:=tail_le ns k
  exact ⟨i,by omega,by omega,by omega⟩
theorem hang_len (ns:List Nd) (k:Nat):(hangN ns k).length = tailN ns k + 1:=by
  unfold hangN
  rw [List.length_map,List.length_range]
theorem hang_last (ns:List Nd) (k:Nat):atI ((hangN ns k).map V.int) (-1) = some (.int ((k:Int) + (tailN ns k:Int))):=by
  unfold hangN
  rw [List.range_succ,List.map_append,List.map_append]
  exact atI_last _ _
theorem eqv_pair (a b:Str) (i j:Int):PyData.eqv (.tuple [.str a,.int i]) (.tuple [.str b,.int j]) = decide (a = b ∧ i = j):=by
  simp only [PyData.eqv,PyData.eqvAll,Bool.and_true]
  by_cases h1:a = b <;> by_cases h2:i = j <;> simp [h1,h2]
theorem shaped_pair {a:Str} (h:PyData.strOk a = true) (i:Int):SeqAt.shaped (.tuple [.str a,.int i]) = true:=by
  unfold SeqAt.shaped
  rw [Bool.and_eq_true]
  refine ⟨by simp only [PyData.canLay0,PyData.canLayAll0,h,Bool.and_self],decide_eq_true ?_⟩
  simp only [PyData.depth,PyData.depthAll]
  omega
def underN (one other:Str) (ns:List Nd):Bool:=(idxs (isM one) 0 (namesN ns)).any fun p=>inV (.str other) (((hangN ns p.toNat).drop 1).map fun q=>(namesN ns).getD q.toNat .non)
def besideN (one other:Str) (ns:List Nd):Bool:=(idxs (isM one) 0 (namesN ns)).any fun p=>decide (p.toNat + tailN ns p.toNat + 1 < ns.length) && decide (ns.getD (p.toNat + tailN ns p.toNat + 1) ("",0) = (other,(ns.getD p.toNat ("",0)).2))
def underT (one other:Str) (ls:List (List V)) (w:Nat):Bool:=(List.range w).any fun c=>aheadB one other (ls.map fun l=>l.getD c .non)
abbrev Spot:=Str × Int × Int
def spotV (s:Spot):List V:=[.str s.1,.int s.2.1,.int s.2.2]
def nmV:V → Str
  | .str z=>z
  | _=>""
def spotsS:Dsc → List Spot
  | .row xs=>xs.zipIdx.map fun p=>(nmV p.1,0,(p.2:Int))
  | .forest ns=>ns.zipIdx.map fun p=>(p.1.1,p.1.2,(p.2:Int))
  | .table ls _=>(ls.zipIdx.map fun p=>p.1.zipIdx.map fun q=>(nmV q.1,(p.2:Int),(q.2:Int))).flatten
def SpotsAt (H:Hp) (l:Addr) (sp:List Spot):Prop:=∃ ts,H l = some (.lst ts) ∧ RowsAt HO.tup H ts (sp.map spotV)
def depS (sp:List Spot) (i:Nat):Int:=(sp.getD i ("",0,0)).2.1
def aboveS (sp:List Spot) (e l:Nat):Bool:=(List.range (l - e)).all fun j=>decide (depS sp e < depS sp (e + 1 + j))
def kindD:Dsc → Str
  | .row _=>"row"
  | .forest _=>"forest"
  | .table _ _=>"table"
def underS (d:Dsc) (e l:Nat):Bool:=match d with
  | .row _=>false
  | .forest ns=>aboveS (spotsS (.forest ns)) e l
  | .table ls w=>decide ((((spotsS (.table ls w)).getD e ("",0,0)).2.2) = ((spotsS (.table ls w)).getD l ("",0,0)).2.2)
def besideS (d:Dsc) (e l:Nat):Bool:=match d with
  | .row xs=>decide (((spotsS (.row xs)).getD l ("",0,0)).2.2 = ((spotsS (.row xs)).getD e ("",0,0)).2.2 + 1)
  | .forest ns=>decide (depS (spotsS (.forest ns)) e = depS (spotsS (.forest ns)) l) && (List.range (l - (e + 1))).all fun j=>decide (depS (spotsS (.forest ns)) e < depS (spotsS (.forest ns)) (e + 1 + j))
  | .table ls w=>decide (depS (spotsS (.table ls w)) e = depS (spotsS (.table ls w)) l) && decide (((spotsS (.table ls w)).getD l ("",0,0)).2.2 = ((spotsS (.table ls w)).getD e ("",0,0)).2.2 + 1)
def pairsN (n:Nat):List (Nat × Nat):=((List.range n).map fun e=>(List.range (n - (e + 1))).map fun j=>(e,e + 1 + j)).flatten
def nameS (sp:List Spot) (a b:Str) (p:Nat × Nat):Bool:=decide ((sp.getD p.1 ("",0,0)).1 = a) && decide ((sp.getD p.2 ("",0,0)).1 = b)
def dueS (f:Nat → Nat → Bool) (sp:List Spot) (a b:Str) (ps:List (Nat × Nat)):Bool:=ps.any fun p=>nameS sp a b p && f p.1 p.2
def DueK (H:Hp) (kvs:List (List Key × V)) (d:Dsc) (ps:List (Nat × Nat)):Prop:=kvs.length ≤ ps.length ∧ ∀ a b:Str,
  (valV kvs [.inr a,.inr b] = none ∧ ps.any (nameS (spotsS d) a b) = false) ∨ (∃ t,valV kvs [.inr a,.inr b] = some (.ref t) ∧ ps.any (nameS (spotsS d) a b) = true ∧ H t = some (.tup [.bl (dueS (underS d) (spotsS d) a b ps),.bl (dueS (besideS d) (spotsS d) a b ps)]))
def DueAt (H:Hp) (l:Addr) (d:Dsc) (ps:List (Nat × Nat)):Prop:=∃ kvs:List (List Key × V),H l = some (.dT kvs) ∧ DueK H kvs d ps
theorem due_none {f:Nat → Nat → Bool} {sp:List Spot} {a b:Str} {ps:List (Nat × Nat)} (h:ps.any (nameS sp a b) = false):dueS f sp a b ps = false:=by
  unfold dueS
  rw [List.any_eq_false] at h ⊢
  intro p hp
  have:=Bool.eq_false_iff.mpr (h p hp)
  rw [this]
  simp
theorem due_snoc (f:Nat → Nat → Bool) (sp:List Spot) (a b:Str) (ps:List (Nat × Nat)) (p:Nat × Nat):dueS f sp a b (ps ++ [p]) = (dueS f sp a b ps || (nameS sp a b p && f p.1 p.2)):=by
  unfold dueS
  rw [List.any_append,List.any_cons,List.any_nil,Bool.or_false]
theorem DueK.step {H H':Hp} {kvs:List (List Key × V)} {d:Dsc} {ps:List (Nat × Nat)} {e n:Nat} {T:Addr} {a0 b0:Str} (h:DueK H kvs d ps) (keep:∀ t ys,H t = some (.tup ys) → H' t = some (.tup ys)) (ea:((spotsS d).getD e ("",0,0)).1 = a0) (eb:((spotsS d).getD n ("",0,0)).1 = b0)
    (hT:H' T = some (.tup [.bl (dueS (underS d) (spotsS d) a0 b0 ps || underS d e n),.bl (dueS (besideS d) (spotsS d) a0 b0 ps || besideS d e n)])):DueK H' (putK kvs [.inr a0,.inr b0] (.ref T)) d (ps ++ [(e,n)]):=by
  refine ⟨?_,fun a b=>?_⟩
  · have:=length_putK kvs [.inr a0,.inr b0] (.ref T)
    have:=h.1
    rw [List.length_append,List.length_cons,List.length_nil]
    omega
  · rw [valV_put]
    by_cases hab:a0 = a ∧ b0 = b
    · obtain ⟨h1,h2⟩:=hab
      subst h1 h2
      have nm:nameS (spotsS d) a0 b0 (e,n) = true:=by
        unfold nameS
        rw [ea,eb]
        simp
      refine .inr ⟨T,by rw [if_pos rfl],by rw [List.any_append,List.any_cons,nm]; simp,?_⟩
      rw [due_snoc,due_snoc,nm,Bool.true_and,Bool.true_and]
      exact hT
    · have nm:nameS (spotsS d) a b (e,n) = false:=by
        unfold nameS
        rw [ea,eb]
        by_cases h1:a0 = a
        · rw [decide_eq_false (fun h2=>hab ⟨h1,h2⟩),Bool.and_false]
        · rw [decide_eq_false h1,Bool.false_and]
      have ne:¬ ([.inr a,.inr b]:List Key) = [.inr a0,.inr b0]:=fun q=>hab (by
        simp only [List.cons.injEq,Sum.inr.injEq,and_true] at q
        exact ⟨q.1.symm,q.2.symm⟩)
      rw [if_neg ne]
      have an:(ps ++ [(e,n)]).any (nameS (spotsS d) a b) = ps.any (nameS (spotsS d) a b):=by rw [List.any_append,List.any_cons,nm]; simp
      rw [an,due_snoc,due_snoc,nm,Bool.false_and,Bool.or_false,Bool.false_and,Bool.or_false]
      rcases h.2 a b with ⟨h1,h2⟩ | ⟨t,h1,h2,h3⟩
      · exact .inl ⟨h1,h2⟩
      · exact .inr ⟨t,h1,h2,keep _ _ h3⟩
theorem FormAt.kind {H:Hp} {f:Addr} {d:Dsc} (h:FormAt H f d):∃ r,H f = some (.tup (.str (kindD d) :: r)):=by
  cases d with
  | row xs=>obtain ⟨t,h1,_⟩:=h; exact ⟨_,h1⟩
  | forest ns=>obtain ⟨t,ys,h1,_⟩:=h; exact ⟨_,h1⟩
  | table ls w=>obtain ⟨t,ts,h1,_⟩:=h; exact ⟨_,h1⟩
def preN (n i:Nat):List (Nat × Nat):=((List.range i).map fun e=>(List.range (n - (e + 1))).map fun j=>(e,e + 1 + j)).flatten
theorem pre_snoc (n i:Nat):preN n (i + 1) = preN n i ++ (List.range (n - (i + 1))).map fun j=>(i,i + 1 + j):=by
  unfold preN
  rw [List.range_succ,List.map_append,List.flatten_append,List.map_cons,List.map_nil,List.flatten_cons,List.flatten_nil,List.append_nil]
theorem pre_le (n:Nat):∀ i,(preN n i).length ≤ i * n
  | 0=>by simp [preN]
  | i + 1=>by
    have:=pre_le n i
    rw [pre_snoc,List.length_append,List.length_map,List.length_range,Nat.add_mul,Nat.one_mul]
    omega
theorem spots_get {H:Hp} {ts:List V} {sp:List Spot} (h:RowsAt HO.tup H ts (sp.map spotV)) {i:Nat} (hi:i < sp.length):∃ t,atI ts (i:Int) = some (.ref t) ∧ H t = some (.tup [.str (sp.getD i ("",0,0)).1,.int (depS sp i),.int (sp.getD i ("",0,0)).2.2]):=by
  have hl:=h.length
  rw [List.length_map] at hl
  obtain ⟨li,el,t,ex,ht⟩:=h.get (List.getElem?_eq_getElem (by omega:i < ts.length))
  rw [List.getElem?_map,List.getElem?_eq_getElem hi] at el
  have el':spotV sp[i] = li:=Option.some.inj el
  have eD:sp.getD i ("",0,0) = sp[i]:=by rw [List.getD_eq_getElem?_getD,List.getElem?_eq_getElem hi]; rfl
  refine ⟨t,by rw [← ex]; exact atI_nat (List.getElem?_eq_getElem (by omega)),?_⟩
  unfold depS
  rw [eD,ht,← el']
  rfl
theorem above_iff {sp:List Spot} {e n:Nat}:aboveS sp e n = true ↔ ∀ j,e < j → j ≤ n → depS sp e < depS sp j:=by
  unfold aboveS
  rw [List.all_eq_true]
  constructor
  · intro h j h1 h2
    have:=of_decide_eq_true (h (j - (e + 1)) (List.mem_range.mpr (by omega)))
    rwa [show e + 1 + (j - (e + 1)) = j by omega] at this
  · intro h j hj
    have:=List.mem_range.mp hj
    exact decide_eq_true (h _ (by omega) (by omega))
def minOk (sp:List Spot) (e n a:Nat) (dep:Int):Prop:=(e < a → (∀ j,a ≤ j → j ≤ n → dep ≤ depS sp j) ∧ ∃ j,a ≤ j ∧ j ≤ n ∧ dep = depS sp j) ∧ (a = e → aboveS sp e n = false)
theorem minOk_start {sp:List Spot} {e n:Nat} (h:e < n):minOk sp e n n (depS sp n) :=
  ⟨fun _=>⟨fun j h1 h2=>by rw [show j = n by omega]; exact Int.le_refl _,n,Nat.le_refl _,Nat.le_refl _,rfl⟩,fun q=>by omega⟩
theorem decide_int (a b:Int):decide (V.int a = V.int b) = decide (a = b):=by by_cases h:a = b <;> simp [h]
theorem besT (ls:List (List V)) (w e l:Nat):besideS (.table ls w) e l = (decide (depS (spotsS (.table ls w)) e = depS (spotsS (.table ls w)) l) && decide (((spotsS (.table ls w)).getD l ("",0,0)).2.2 = ((spotsS (.table ls w)).getD e ("",0,0)).2.2 + 1)):=rfl
theorem rows_snoc {H:Hp} {ys:List V} {rows:List (List V)} {T:Addr} {r:List V} (h:RowsAt HO.tup H ys rows) (hT:H T = none):RowsAt HO.tup (upd H T (.tup r)) (ys ++ [.ref T]) (rows ++ [r]) :=
  RowsAt.append (h.same (Same.put hT)) ⟨⟨T,rfl,upd_same⟩,trivial⟩
theorem spots_row {xs:List V} {w:V} {i:Nat} (h:xs[i]? = some w):(spotsS (.row xs))[i]? = some (nmV w,0,(i:Int)):=by
  show (xs.zipIdx.map fun p=>((nmV p.1,0,(p.2:Int)):Spot))[i]? = _
  rw [List.getElem?_map,List.getElem?_zipIdx,h]
  simp
theorem spots_for {ns:List Nd} {n:Nd} {i:Nat} (h:ns[i]? = some n):(spotsS (.forest ns))[i]? = some (n.1,n.2,(i:Int)):=by
  show (ns.zipIdx.map fun p=>((p.1.1,p.1.2,(p.2:Int)):Spot))[i]? = _
  rw [List.getElem?_map,List.getElem?_zipIdx,h]
  simp
theorem spots_row_len (xs:List V):(spotsS (.row xs)).length = xs.length:=by
  show (xs.zipIdx.map fun p=>((nmV p.1,0,(p.2:Int)):Spot)).length = _
  rw [List.length_map,List.length_zipIdx]
theorem spots_for_len (ns:List Nd):(spotsS (.forest ns)).length = ns.length:=by
  show (ns.zipIdx.map fun p=>((p.1.1,p.1.2,(p.2:Int)):Spot)).length = _
  rw [List.length_map,List.length_zipIdx]
theorem take_snoc {sp:List Spot} {i:Nat} {x:Spot} (h:sp[i]? = some x):(sp.take (i + 1)).map spotV = (sp.take i).map spotV ++ [spotV x]:=by
  rw [List.take_add_one,h,List.map_append]
  rfl
def lineS (i:Nat) (l:List V):List Spot:=l.zipIdx.map fun q=>(nmV q.1,(i:Int),(q.2:Int))
theorem spots_tab_snoc {ls:List (List V)} {w i:Nat} {l:List V} (h:ls[i]? = some l):spotsS (.table (ls.take (i + 1)) w) = spotsS (.table (ls.take i) w) ++ lineS i l:=by
  have hi:=(List.getElem?_eq_some_iff.mp h).1
  show ((ls.take (i + 1)).zipIdx.map fun p=>p.1.zipIdx.map fun q=>((nmV q.1,(p.2:Int),(q.2:Int)):Spot)).flatten = ((ls.take i).zipIdx.map fun p=>p.1.zipIdx.map fun q=>((nmV q.1,(p.2:Int),(q.2:Int)):Spot)).flatten ++ lineS i l
  rw [List.take_add_one,h,List.zipIdx_append,List.map_append,List.flatten_append,List.length_take,Nat.min_eq_left (by omega)]
  simp [lineS]
theorem line_snoc {l:List V} {i j:Nat} {x:V} (h:l[j]? = some x):lineS i (l.take (j + 1)) = lineS i (l.take j) ++ [(nmV x,(i:Int),(j:Int))]:=by
  have hj:=(List.getElem?_eq_some_iff.mp h).1
  unfold lineS
  rw [List.take_add_one,h,List.zipIdx_append,List.map_append,List.length_take,Nat.min_eq_left (by omega)]
  simp
theorem spots_tab_len0:∀ (ls:List (List V)) (k:Nat),((ls.zipIdx k).map fun p=>p.1.zipIdx.map fun q=>((nmV q.1,(p.2:Int),(q.2:Int)):Spot)).flatten.length = ls.flatten.length
  | [],_=>rfl
  | l :: ls,k=>by
    rw [List.zipIdx_cons,List.map_cons,List.flatten_cons,List.length_append,spots_tab_len0 ls (k + 1),List.length_map,List.length_zipIdx,List.flatten_cons,List.length_append]
theorem spots_tab_len (ls:List (List V)) (w:Nat):(spotsS (.table ls w)).length = ls.flatten.length:=spots_tab_len0 ls 0
theorem flat_le {w:Nat}:∀ {ls:List (List V)},(∀ l ∈ ls,lineOk w l) → ls.flatten.length = ls.length * w
  | [],_=>by simp
  | l :: ls,h=>by
    rw [List.flatten_cons,List.length_append,flat_le fun m hm=>h m (List.mem_cons_of_mem _ hm),(h l List.mem_cons_self).1,List.length_cons,Nat.add_mul,Nat.one_mul,Nat.add_comm]
theorem spots_le {d:Dsc} (o:DOk d):(spotsS d).length ≤ 144:=by
  cases d with
  | row xs=>rw [spots_row_len]; have:=o.2; omega
  | forest ns=>rw [spots_for_len]; have:=o.2; omega
  | table ls w =>
    rw [spots_tab_len,flat_le o.2.2]
    exact Nat.mul_le_mul o.2.1 o.1
theorem line_len (i:Nat) (l:List V):(lineS i l).length = l.length:=by
  unfold lineS
  rw [List.length_map,List.length_zipIdx]
theorem ne_of_none2 {H:Hp} {a p:Addr} {o:HO} (h:H a = some o) (hp:H p = none):p ≠ a:=fun q=>by rw [q,h] at hp; cases hp
theorem shaped3 (a b c:Bool):SeqAt.shaped (.list [.bool a,.bool b,.bool c]) = true:=by cases a <;> cases b <;> cases c <;> rfl
theorem eqv3 (a b c:Bool):PyData.eqv (.list [.bool a,.bool b,.bool c]) (.list [.bool a,.bool b,.bool c]) = true:=by cases a <;> cases b <;> cases c <;> rfl
def sp__law_thing (K:PySem.W.Frag) (ad:Adr):Sp:=fun vs H Q _=>∃ (kd:Int) (a m:Addr) (ns:List Int) (b:Nat) (zs:List Str),vs = [.int kd,.ref a,.int b,.ref m] ∧ SqL K H a (ns.map V.int) ∧ ns.length ≤ 63 ∧ H m = some (.lst (zs.map V.str)) ∧ 0 < zs.length ∧ (∀ z ∈ zs,markS z = true) ∧ ∀ p d H',Same H H' → ThObj ad H' p d → Q (.ref p) H'
def sp_places_of (K:PySem.W.Frag):Sp:=fun vs H Q _=>∃ (t:Addr) (xs:List V) (m:Str),vs = [.ref t,.str m] ∧ SqT K H t xs ∧ xs.all markV = true ∧ xs.length ≤ 900 ∧ ∀ l H',H l = none → Same H H' → H' l = some (.lst ((idxs (isM m) 0 xs).map V.int)) → Q (.ref l) H'
def sp_Forest_standing (ad:Adr):Sp:=fun vs H Q _=>∃ (p:Addr) (ns:List Nd) (m:Str),vs = [.ref p,.str m] ∧ ThObj ad H p (.forest ns) ∧ ∀ l H',H l = none → Same H H' → H' l = some (.lst ((standD (.forest ns) m).map V.int)) → Q (.ref l) H'
def sp_Forest_hanging (ad:Adr):Sp:=fun vs H Q _=>∃ (p:Addr) (ns:List Nd) (k:Nat),vs = [.ref p,.int k] ∧ ThObj ad H p (.forest ns) ∧ k < ns.length ∧ ∀ l H',H l = none → Same H H' → H' l = some (.lst ((hangN ns k).map V.int)) → Q (.ref l) H'
def sp_stands_ahead (K:PySem.W.Frag):Sp:=fun vs H Q _=>∃ (t:Addr) (xs:List V) (one other:Str),vs = [.ref t,.str one,.str other] ∧ (SqL K H t xs ∨ SqT K H t xs) ∧ xs.all markV = true ∧ Q (.bl (aheadB one other xs)) H
def sp_stands_right_ahead:Sp:=fun vs H Q _=>∃ (t:Addr) (xs:List V) (one other:Str),vs = [.ref t,.str one,.str other] ∧ Rd H t (.tup xs) ∧ xs.all markV = true ∧ xs.length ≤ 900 ∧ ∀ H',Same H H' → Q (.bl (nextB one other xs)) H'
def sp_is_before (ad:Adr):Sp:=fun vs H Q _=>∃ (p:Addr) (d:Dsc) (one other:Str),vs = [.ref p,.str one,.str other] ∧ ThObj ad H p d ∧ Q (.bl (aheadB one other (spotsD d))) H
def sp_Row_is_under:Sp:=fun vs H Q _=>∃ (p a b:V),vs = [p,a,b] ∧ Q (.bl false) H
def sp_Row_is_beside (ad:Adr):Sp:=fun vs H Q _=>∃ (p:Addr) (xs:List V) (one other:Str),vs = [.ref p,.str one,.str other] ∧ RowObj ad H p xs ∧ ∀ H',Same H H' → Q (.bl (nextB one other xs)) H'
def sp_Forest_is_under (ad:Adr):Sp:=fun vs H Q _=>∃ (p:Addr) (ns:List Nd) (one other:Str),vs = [.ref p,.str one,.str other] ∧ ThObj ad H p (.forest ns) ∧ ∀ H',Same H H' → Q (.bl (underN one other ns)) H'
def sp_Forest_is_beside (ad:Adr):Sp:=fun vs H Q _=>∃ (p:Addr) (ns:List Nd) (one other:Str),vs = [.ref p,.str one,.str other] ∧ ThObj ad H p (.forest ns) ∧ PyData.strOk other = true ∧ ∀ H',Same H H' → Q (.bl (besideN one other ns)) H'
def sp_Table_is_under (ad:Adr):Sp:=fun vs H Q _=>∃ (p:Addr) (ls:List (List V)) (w:Nat) (one other:Str),vs = [.ref p,.str one,.str other] ∧ TabObj ad H p ls w ∧ ∀ H',Same H H' → Q (.bl (underT one other ls w)) H'
def sp_Table_is_beside (ad:Adr):Sp:=fun vs H Q _=>∃ (p:Addr) (ls:List (List V)) (w:Nat) (one other:Str),vs = [.ref p,.str one,.str other] ∧ TabObj ad H p ls w ∧ ∀ H',Same H H' → Q (.bl (ls.any (nextB one other))) H'
def sp__law_spots:Sp:=fun vs H Q _=>∃ (f:Addr) (d:Dsc),vs = [.ref f] ∧ FormAt H f d ∧ DOk d ∧ ∀ l H',Same H H' → SpotsAt H' l (spotsS d) → Q (.ref l) H'
def sp__law_above:Sp:=fun vs H Q _=>∃ (l:Addr) (sp:List Spot) (e n:Nat),vs = [.ref l,.int e,.int n] ∧ SpotsAt H l sp ∧ e < n ∧ n < sp.length ∧ Q (.bl (aboveS sp e n)) H
def sp__law_pair:Sp:=fun vs H Q _=>∃ (l:Addr) (d:Dsc) (e n:Nat),vs = [.str (kindD d),.ref l,.int e,.int n] ∧ SpotsAt H l (spotsS d) ∧ e < n ∧ n < (spotsS d).length ∧ (spotsS d).length ≤ 900 ∧ ∀ t,H t = none → Q (.ref t) (upd H t (.tup [.bl (underS d e n),.bl (besideS d e n)]))
def sp__law_due:Sp:=fun vs H Q _=>∃ (f:Addr) (d:Dsc),vs = [.ref f] ∧ FormAt H f d ∧ DOk d ∧ ∀ l H',Same H H' → DueAt H' l d (pairsN (spotsS d).length) → Q (.ref l) H'
def sp_law (K:PySem.W.Frag):Sp:=fun vs H Q _=>∃ (a:Addr) (ns:List Int),vs = [.ref a] ∧ SqL K H a (ns.map V.int) ∧ ns.length ≤ 63 ∧ ∀ H',Q (.bl true) H'
theorem any_leftS {ad:Adr} {H:Hp} {p:Addr} {d:Dsc} {Q:VK} {E:XK} (A:(V → Hp → Prop) → Prop) (h:ThObj ad H p d) (hA:∀ F:V → Hp → Prop,(∀ (ps:List Int) l H1,Same H H1 → placesOk 0 (manyD d:Nat) ps → H1 l = some (.lst (ps.map V.int)) → F (.ref l) H1) → A F) (k:∀ ps q H',Same H H' → ThObj ad H' q (leftD d ps) → Q (.ref q) H') :
    ((∃ x y,H p = some (.ins ad.Row x y) ∧ List.lookup (Str.ofString "left") y = none ∧ A fun v H1=>sp_Row_left ad [.ref p,v] H1 Q E) ∨ ∃ x y,H p = some (.ins ad.Forest x y) ∧ List.lookup (Str.ofString "left") y = none ∧ A fun v H1=>sp_Forest_left ad [.ref p,v] H1 Q E) ∨ ∃ x y,H p = some (.ins ad.Table x y) ∧ List.lookup (Str.ofString "left") y = none ∧ A fun v H1=>sp_Table_left ad [.ref p,v] H1 Q E:=by
  have inj:∀ {H1:Hp} {l a:Addr} {ps qs:List Int},H1 l = some (.lst (ps.map V.int)) → V.ref l = .ref a → H1 a = some (.lst (qs.map V.int)) → qs = ps:=fun hl e g=>by
    cases e
    rw [hl] at g
    exact (map_int_inj (HO.lst.inj (Option.some.inj g))).symm
  cases d with
  | row xs =>
    obtain ⟨dx,t,h1,_⟩:=id h
    exact .inl (.inl ⟨dx,_,h1,rfl,hA _ fun ps l H1 s1 hp hl=>⟨p,.ref l,xs,rfl,RowObj.same s1 h,thg2_ints hl,fun a qs e g _ q H' s r=>k ps q H' (s1.trans s) (by have:=inj hl e g; subst this; exact r),fun nb=>absurd ⟨l,ps,rfl,hl,hp⟩ nb⟩⟩)
  | forest ns =>
    obtain ⟨⟨dx,t1,t2,xs,h1,_⟩,o1,o2⟩:=id h
    refine .inl (.inr ⟨dx,_,h1,lookup_no (by decide +kernel) (by decide +kernel),hA _ fun ps l H1 s1 hp hl=>?_⟩)
    have hp':placesOk 0 (ns.length:Int) ps:=hp
    have lps:=places_len hp' (by omega)
    exact ⟨p,.ref l,ns,rfl,h.1.same s1,o1,o2,thg2_ints hl,fun a qs e g _ q H' s r=>k ps q H' (s1.trans s) (by have:=inj hl e g; subst this; exact ⟨r,left_ok o1 hp',by unfold leftN; rw [List.length_map]; omega⟩),fun nb=>absurd ⟨l,ps,rfl,hl,hp⟩ nb⟩
  | table ls w =>
    obtain ⟨dx,t1,t2,ts,h1,_⟩:=id h
    have e:((manyD (.table ls w):Nat):Int) = (ls.length:Int) + (w:Int):=by show ((ls.length + w:Nat):Int) = _; omega
    refine .inr ⟨dx,_,h1,lookup_no3 (by decide +kernel) (by decide +kernel) (by decide +kernel),hA _ fun ps l H1 s1 hp hl=>?_⟩
    rw [e] at hp
    exact ⟨p,.ref l,ls,w,rfl,TabObj.same s1 h,thg2_ints hl,fun a qs e g _ q H' s r=>k ps q H' (s1.trans s) (by have:=inj hl e g; subst this; exact r),fun nb=>absurd ⟨l,ps,rfl,hl,hp⟩ nb⟩
def ArgS (K:PySem.W.Frag) (ad:Adr) (H:Hp) (a p:Addr) (E:XK) (F:V → Hp → Prop):Prop:=sp__law_cell_at K [.ref a,.int 2] H (fun x H1 =>
    ((∃ y z,H1 p = some (.ins ad.Row y z) ∧ List.lookup (Str.ofString "many") z = none ∧ sp_Row_many ad [.ref p] H1 (fun n H2=>sp__law_some [x,n] H2 F E) E) ∨ ∃ y z,H1 p = some (.ins ad.Forest y z) ∧ List.lookup (Str.ofString "many") z = none ∧ sp_many ad [.ref p] H1 (fun n H2=>sp__law_some [x,n] H2 F E) E) ∨ ∃ y z,H1 p = some (.ins ad.Table y z) ∧ List.lookup (Str.ofString "many") z = none ∧ sp_Table_many ad [.ref p] H1 (fun n H2=>sp__law_some [x,n] H2 F E) E) E
theorem argS {K:PySem.W.Frag} {ad:Adr} {H:Hp} {a p:Addr} {d:Dsc} {ns:List Int} {E:XK} (hS:SqL K H a (ns.map V.int)) (h:ThObj ad H p d):∀ F:V → Hp → Prop,(∀ (ps:List Int) l H1,Same H H1 → placesOk 0 (manyD d:Nat) ps → H1 l = some (.lst (ps.map V.int)) → F (.ref l) H1) → ArgS K ad H a p E F:=fun F k =>
  ⟨a,ns,2,rfl,hS,any_many h ⟨_,manyD d,rfl,by have:=h.ok.many; omega,fun ps l H' s hl hp=>k ps l H' s hp hl⟩⟩
def underD (d:Dsc) (m o:Str):Bool:=match d with
  | .row _=>false
  | .forest ns=>underN m o ns
  | .table ls w=>underT m o ls w
def besideD (d:Dsc) (m o:Str):Bool:=match d with
  | .row xs=>nextB m o xs
  | .forest ns=>besideN m o ns
  | .table ls _=>ls.any (nextB m o)
theorem any_before {ad:Adr} {H:Hp} {p:Addr} {d:Dsc} {m o:Str} {Q:VK} {E:XK} (h:ThObj ad H p d) (k:Q (.bl (aheadB m o (spotsD d))) H) :
    ((∃ x y,H p = some (.ins ad.Row x y) ∧ List.lookup (Str.ofString "is_before") y = none ∧ sp_is_before ad [.ref p,.str m,.str o] H Q E) ∨ ∃ x y,H p = some (.ins ad.Forest x y) ∧ List.lookup (Str.ofString "is_before") y = none ∧ sp_is_before ad [.ref p,.str m,.str o] H Q E) ∨ ∃ x y,H p = some (.ins ad.Table x y) ∧ List.lookup (Str.ofString "is_before") y = none ∧ sp_is_before ad [.ref p,.str m,.str o] H Q E:=by
  cases d with
  | row xs=>obtain ⟨dx,t,h1,_⟩:=id h; exact .inl (.inl ⟨dx,_,h1,rfl,p,_,m,o,rfl,h,k⟩)
  | forest ns=>obtain ⟨⟨dx,t1,t2,xs,h1,_⟩,_⟩:=id h; exact .inl (.inr ⟨dx,_,h1,lookup_no (by decide +kernel) (by decide +kernel),p,_,m,o,rfl,h,k⟩)
  | table ls w=>obtain ⟨dx,t1,t2,ts,h1,_⟩:=id h; exact .inr ⟨dx,_,h1,lookup_no3 (by decide +kernel) (by decide +kernel) (by decide +kernel),p,_,m,o,rfl,h,k⟩
theorem any_under {ad:Adr} {H:Hp} {p:Addr} {d:Dsc} {m o:Str} {Q:VK} {E:XK} (h:ThObj ad H p d) (k:∀ H',Same H H' → Q (.bl (underD d m o)) H') :
    ((∃ x y,H p = some (.ins ad.Row x y) ∧ List.lookup (Str.ofString "is_under") y = none ∧ sp_Row_is_under [.ref p,.str m,.str o] H Q E) ∨ ∃ x y,H p = some (.ins ad.Forest x y) ∧ List.lookup (Str.ofString "is_under") y = none ∧ sp_Forest_is_under ad [.ref p,.str m,.str o] H Q E) ∨ ∃ x y,H p = some (.ins ad.Table x y) ∧ List.lookup (Str.ofString "is_under") y = none ∧ sp_Table_is_under ad [.ref p,.str m,.str o] H Q E:=by
  cases d with
  | row xs=>obtain ⟨dx,t,h1,_⟩:=id h; exact .inl (.inl ⟨dx,_,h1,rfl,_,_,_,rfl,k H (Same.refl _)⟩)
  | forest ns=>obtain ⟨⟨dx,t1,t2,xs,h1,_⟩,_⟩:=id h; exact .inl (.inr ⟨dx,_,h1,lookup_no (by decide +kernel) (by decide +kernel),p,_,m,o,rfl,h,k⟩)
  | table ls w=>obtain ⟨dx,t1,t2,ts,h1,_⟩:=id h; exact .inr ⟨dx,_,h1,lookup_no3 (by decide +kernel) (by decide +kernel) (by decide +kernel),p,_,w,m,o,rfl,h,k⟩
theorem any_beside {ad:Adr} {H:Hp} {p:Addr} {d:Dsc} {m o:Str} {Q:VK} {E:XK} (h:ThObj ad H p d) (ho:PyData.strOk o = true) (k:∀ H',Same H H' → Q (.bl (besideD d m o)) H') :
    ((∃ x y,H p = some (.ins ad.Row x y) ∧ List.lookup (Str.ofString "is_beside") y = none ∧ sp_Row_is_beside ad [.ref p,.str m,.str o] H Q E) ∨ ∃ x y,H p = some (.ins ad.Forest x y) ∧ List.lookup (Str.ofString "is_beside") y = none ∧ sp_Forest_is_beside ad [.ref p,.str m,.str o] H Q E) ∨ ∃ x y,H p = some (.ins ad.Table x y) ∧ List.lookup (Str.ofString "is_beside") y = none ∧ sp_Table_is_beside ad [.ref p,.str m,.str o] H Q E:=by
  cases d with
  | row xs=>obtain ⟨dx,t,h1,_⟩:=id h; exact .inl (.inl ⟨dx,_,h1,rfl,p,_,m,o,rfl,h,k⟩)
  | forest ns=>obtain ⟨⟨dx,t1,t2,xs,h1,_⟩,_⟩:=id h; exact .inl (.inr ⟨dx,_,h1,lookup_no (by decide +kernel) (by decide +kernel),p,_,m,o,rfl,h,ho,k⟩)
  | table ls w=>obtain ⟨dx,t1,t2,ts,h1,_⟩:=id h; exact .inr ⟨dx,_,h1,lookup_no3 (by decide +kernel) (by decide +kernel) (by decide +kernel),p,_,w,m,o,rfl,h,k⟩
theorem pairs_any {n:Nat} {f:Nat × Nat → Bool}:(pairsN n).any f = true ↔ ∃ e l,e < l ∧ l < n ∧ f (e,l) = true:=by
  unfold pairsN
  rw [List.any_eq_true]
  constructor
  · rintro ⟨p,hp,hf⟩
    obtain ⟨q,hq,hpq⟩:=List.mem_flatten.mp hp
    obtain ⟨e,he,rfl⟩:=List.mem_map.mp hq
    obtain ⟨j,hj,rfl⟩:=List.mem_map.mp hpq
    have:=List.mem_range.mp he
    have:=List.mem_range.mp hj
    exact ⟨e,e + 1 + j,by omega,by omega,hf⟩
  · rintro ⟨e,l,h1,h2,hf⟩
    refine ⟨(e,l),List.mem_flatten.mpr ⟨_,List.mem_map.mpr ⟨e,List.mem_range.mpr (by omega),rfl⟩,List.mem_map.mpr ⟨l - (e + 1),List.mem_range.mpr (by omega),?_⟩⟩,hf⟩
    rw [show e + 1 + (l - (e + 1)) = l by omega]
theorem ahead_iff {m o:Str}:∀ {xs:List V},aheadB m o xs = true ↔ ∃ e l,e < l ∧ l < xs.length ∧ isM m (xs.getD e .non) = true ∧ isM o (xs.getD l .non) = true
  | []=>by
    constructor
    · intro h
      exact nomatch (show false = true from h)
    · rintro ⟨e,l,_,h,_⟩
      exact absurd h (Nat.not_lt_zero _)
  | x :: xs=>by
    show ((isM m x && xs.any (isM o)) || aheadB m o xs) = true ↔ _
    rw [Bool.or_eq_true,Bool.and_eq_true,ahead_iff (xs:=xs),List.any_eq_true]
    constructor
    · rintro (⟨h1,y,hy,h2⟩ | ⟨e,l,h1,h2,h3,h4⟩)
      · obtain ⟨i,hi,rfl⟩:=List.mem_iff_getElem.mp hy
        refine ⟨0,i + 1,by omega,by rw [List.length_cons]; omega,h1,?_⟩
        rw [List.getD_eq_getElem?_getD,List.getElem?_cons_succ,List.getElem?_eq_getElem hi]
        exact h2
      · exact ⟨e + 1,l + 1,by omega,by rw [List.length_cons]; omega,h3,h4⟩
    · rintro ⟨e,l,h1,h2,h3,h4⟩
      cases l with
      | zero=>omega
      | succ l =>
        rw [List.length_cons] at h2
        have h4':isM o (xs.getD l .non) = true:=h4
        cases e with
        | zero =>
          refine .inl ⟨h3,xs.getD l .non,?_,h4'⟩
          rw [List.getD_eq_getElem?_getD,List.getElem?_eq_getElem (by omega:l < xs.length)]
          exact List.getElem_mem _
        | succ e=>exact .inr ⟨e,l,by omega,by omega,h3,h4'⟩
theorem isM_nm {m:Str} {x:V} (h:markV x = true):isM m x = decide (nmV x = m):=by
  obtain ⟨z,rfl⟩:=mark_str h
  exact isM_str m z
theorem spots_names0:∀ (ls:List (List V)) (k:Nat),(((ls.zipIdx k).map fun p=>p.1.zipIdx.map fun q=>((nmV q.1,(p.2:Int),(q.2:Int)):Spot)).flatten).map (fun s=>s.1) = ls.flatten.map nmV
  | [],_=>rfl
  | l :: ls,k=>by
    have e:(l.zipIdx.map fun q=>((nmV q.1,(k:Int),(q.2:Int)):Spot)).map (fun s=>s.1) = l.map nmV:=by
      rw [List.map_map]
      show l.zipIdx.map (fun q=>nmV q.1) = _
      rw [show (fun q:V × Nat=>nmV q.1) = nmV ∘ Prod.fst from rfl,← List.map_map,List.zipIdx_map_fst]
    rw [List.zipIdx_cons,List.map_cons,List.flatten_cons,List.map_append,spots_names0 ls (k + 1),List.flatten_cons,List.map_append,e]
theorem spots_names (d:Dsc):(spotsS d).map (fun s=>s.1) = (spotsD d).map nmV:=by
  cases d with
  | row xs =>
    show (xs.zipIdx.map fun p=>((nmV p.1,0,(p.2:Int)):Spot)).map (fun s=>s.1) = _
    rw [List.map_map]
    show xs.zipIdx.map (fun q=>nmV q.1) = _
    rw [show (fun q:V × Nat=>nmV q.1) = nmV ∘ Prod.fst from rfl,← List.map_map,List.zipIdx_map_fst]
    rfl
  | forest ns =>
    show (ns.zipIdx.map fun p=>((p.1.1,p.1.2,(p.2:Int)):Spot)).map (fun s=>s.1) = (ns.map fun n=>V.str n.1).map nmV
    rw [List.map_map,List.map_map]
    show ns.zipIdx.map (fun q=>q.1.1) = ns.map fun n=>n.1
    rw [show (fun q:Nd × Nat=>q.1.1) = (fun n:Nd=>n.1) ∘ Prod.fst from rfl,← List.map_map,List.zipIdx_map_fst]
  | table ls w=>exact spots_names0 ls 0
theorem spots_lenD (d:Dsc):(spotsS d).length = (spotsD d).length:=by
  have:=congrArg List.length (spots_names d)
  rwa [List.length_map,List.length_map] at this
theorem spots_marks {d:Dsc} (o:DOk d):(spotsD d).all markV = true:=by
  cases d with
  | row xs=>exact o.1
  | forest ns =>
    show (ns.map fun n=>V.str n.1).all markV = true
    rw [List.all_map,List.all_eq_true]
    intro n hn
    exact (depthOk_all o.1 n hn).1
  | table ls w=>exact flat_marks fun l hl=>(o.2.2 l hl).2
theorem nm_get {d:Dsc} (o:DOk d) {m:Str} {i:Nat} (h:i < (spotsS d).length):isM m ((spotsD d).getD i .non) = decide (((spotsS d).getD i ("",0,0)).1 = m):=by
  have h':i < (spotsD d).length:=by rw [← spots_lenD]; exact h
  have e:=congrArg (fun l=>l[i]?) (spots_names d)
  simp only [List.getElem?_map,List.getElem?_eq_getElem h,List.getElem?_eq_getElem h',Option.map_some,Option.some.injEq] at e
  rw [List.getD_eq_getElem?_getD,List.getD_eq_getElem?_getD,List.getElem?_eq_getElem h,List.getElem?_eq_getElem h']
  show isM m (spotsD d)[i] = decide ((spotsS d)[i].1 = m)
  rw [isM_nm (List.all_eq_true.mp (spots_marks o) _ (List.getElem_mem h')),e]
theorem dueBefore {d:Dsc} (o:DOk d) (m n:Str):aheadB m n (spotsD d) = (pairsN (spotsS d).length).any (nameS (spotsS d) m n):=by
  rw [Bool.eq_iff_iff,ahead_iff,pairs_any,← spots_lenD]
  constructor
  · rintro ⟨e,l,h1,h2,h3,h4⟩
    refine ⟨e,l,h1,h2,?_⟩
    rw [nm_get o (by omega)] at h3
    rw [nm_get o h2] at h4
    unfold nameS
    rw [h3,h4]
    rfl
  · rintro ⟨e,l,h1,h2,h3⟩
    unfold nameS at h3
    rw [Bool.and_eq_true] at h3
    refine ⟨e,l,h1,h2,?_,?_⟩
    · rw [nm_get o (by omega)]
      exact h3.1
    · rw [nm_get o h2]
      exact h3.2
theorem due_iff {f:Nat → Nat → Bool} {sp:List Spot} {m n:Str}:dueS f sp m n (pairsN sp.length) = true ↔ ∃ e l,e < l ∧ l < sp.length ∧ (sp.getD e ("",0,0)).1 = m ∧ (sp.getD l ("",0,0)).1 = n ∧ f e l = true:=by
  unfold dueS
  rw [pairs_any]
  unfold nameS
  simp only [Bool.and_eq_true,decide_eq_true_eq,and_assoc]
theorem getD_mem {α:Type} {xs:List α} {i:Nat} {a:α} (h:i < xs.length):xs.getD i a ∈ xs:=by
  rw [List.getD_eq_getElem?_getD,List.getElem?_eq_getElem h]
  exact List.getElem_mem h
theorem for_get {ns:List Nd} {i:Nat} (h:i < ns.length):(spotsS (.forest ns)).getD i ("",0,0) = ((ns.getD i ("",0)).1,(ns.getD i ("",0)).2,(i:Int)):=by
  rw [List.getD_eq_getElem?_getD,spots_for (List.getElem?_eq_getElem h),List.getD_eq_getElem?_getD,List.getElem?_eq_getElem h]
  rfl
theorem row_get {xs:List V} {i:Nat} (h:i < xs.length):(spotsS (.row xs)).getD i ("",0,0) = (nmV (xs.getD i .non),0,(i:Int)):=by
  rw [List.getD_eq_getElem?_getD,spots_row (List.getElem?_eq_getElem h),List.getD_eq_getElem?_getD,List.getElem?_eq_getElem h]
  rfl
theorem for_dep {ns:List Nd} {i:Nat} (h:i < ns.length):depS (spotsS (.forest ns)) i = (ns.getD i ("",0)).2:=by
  unfold depS
  rw [for_get h]
theorem tail_iff {ns:List Nd} {e l:Nat} (hl:l < ns.length):l ≤ e + tailN ns e ↔ ∀ j,e < j → j ≤ l → (ns.getD e ("",0)).2 < (ns.getD j ("",0)).2:=by
  constructor
  · intro h j h1 h2
    obtain ⟨n,hn,hd⟩:=tail_lt (ns:=ns) (k:=e) (j:=j - (e + 1)) (by omega)
    rw [show e + 1 + (j - (e + 1)) = j by omega] at hn
    rw [List.getD_eq_getElem?_getD (i:=j),hn]
    exact hd
  · intro h
    rcases Nat.lt_or_ge (e + tailN ns e) l with hlt | hge
    · have hj:e + 1 + tailN ns e < ns.length:=by omega
      have:=tail_stop (List.getElem?_eq_getElem hj)
      have h2:=h (e + 1 + tailN ns e) (by omega) (by omega)
      rw [List.getD_eq_getElem?_getD (i:=e + 1 + tailN ns e),List.getElem?_eq_getElem hj] at h2
      exact absurd h2 this
    · exact hge
theorem mem_names {ns:List Nd} {m:Str} {p:Int}:p ∈ idxs (isM m) 0 (namesN ns) ↔ ∃ n:Nat,p = (n:Int) ∧ n < ns.length ∧ (ns.getD n ("",0)).1 = m:=by
  rw [mem_idxs]
  constructor
  · rintro ⟨n,x,h1,h2,h3⟩
    unfold namesN at h2
    rw [List.getElem?_map] at h2
    obtain ⟨nd,h4,rfl⟩:=Option.map_eq_some_iff.mp h2
    refine ⟨n,by rw [h1,Nat.zero_add],(List.getElem?_eq_some_iff.mp h4).1,?_⟩
    rw [List.getD_eq_getElem?_getD,h4]
    rw [isM_str] at h3
    exact of_decide_eq_true h3
  · rintro ⟨n,h1,h2,h3⟩
    refine ⟨n,.str ns[n].1,by rw [h1,Nat.zero_add],?_,?_⟩
    · unfold namesN
      rw [List.getElem?_map,List.getElem?_eq_getElem h2]
      rfl
    · rw [isM_str]
      rw [List.getD_eq_getElem?_getD,List.getElem?_eq_getElem h2] at h3
      exact decide_eq_true h3
theorem hang_drop {ns:List Nd} {k:Nat} {q:Int}:q ∈ (hangN ns k).drop 1 ↔ ∃ i:Nat,1 ≤ i ∧ i ≤ tailN ns k ∧ q = ((k + i:Nat):Int):=by
  rw [List.mem_iff_getElem?]
  unfold hangN
  constructor
  · rintro ⟨i,h⟩
    rw [List.getElem?_drop,List.getElem?_map] at h
    obtain ⟨j,hj,rfl⟩:=Option.map_eq_some_iff.mp h
    obtain ⟨h1,h2⟩:=List.getElem?_eq_some_iff.mp hj
    rw [List.length_range] at h1
    rw [List.getElem_range] at h2
    exact ⟨j,by omega,by omega,by omega⟩
  · rintro ⟨i,h1,h2,rfl⟩
    refine ⟨i - 1,?_⟩
    rw [List.getElem?_drop,List.getElem?_map,show 1 + (i - 1) = i by omega,List.getElem?_range (by omega)]
    show some ((k:Int) + (i:Int)) = _
    rw [show (k:Int) + (i:Int) = ((k + i:Nat):Int) by omega]
theorem underN_iff {ns:List Nd} {m o:Str}:underN m o ns = true ↔ ∃ e l,e < l ∧ l < ns.length ∧ (ns.getD e ("",0)).1 = m ∧ (ns.getD l ("",0)).1 = o ∧ l ≤ e + tailN ns e:=by
  unfold underN
  rw [List.any_eq_true]
  constructor
  · rintro ⟨p,hp,hi⟩
    obtain ⟨e,rfl,he,hm⟩:=mem_names.mp hp
    rw [Int.toNat_natCast] at hi
    obtain ⟨x,hx,hfx⟩:=List.any_eq_true.mp (show (((hangN ns e).drop 1).map fun q=>(namesN ns).getD q.toNat .non).any (isM o) = true from hi)
    obtain ⟨q,hq,rfl⟩:=List.mem_map.mp hx
    obtain ⟨i,hi1,hi2,rfl⟩:=hang_drop.mp hq
    have:=tail_le ns e
    rw [Int.toNat_natCast,namesN_get (by omega),isM_str] at hfx
    exact ⟨e,e + i,by omega,by omega,hm,of_decide_eq_true hfx,by omega⟩
  · rintro ⟨e,l,h1,h2,h3,h4,h5⟩
    refine ⟨(e:Int),mem_names.mpr ⟨e,rfl,by omega,h3⟩,?_⟩
    rw [Int.toNat_natCast]
    refine (show (((hangN ns e).drop 1).map fun q=>(namesN ns).getD q.toNat .non).any (isM o) = true from List.any_eq_true.mpr ⟨_,List.mem_map.mpr ⟨((e + (l - e):Nat):Int),hang_drop.mpr ⟨l - e,by omega,by omega,rfl⟩,rfl⟩,?_⟩)
    rw [Int.toNat_natCast,show e + (l - e) = l by omega,namesN_get h2,isM_str]
    exact decide_eq_true h4
theorem besideN_iff {ns:List Nd} {m o:Str}:besideN m o ns = true ↔ ∃ e,e + tailN ns e + 1 < ns.length ∧ (ns.getD e ("",0)).1 = m ∧ ns.getD (e + tailN ns e + 1) ("",0) = (o,(ns.getD e ("",0)).2):=by
  unfold besideN
  rw [List.any_eq_true]
  constructor
  · rintro ⟨p,hp,hi⟩
    obtain ⟨e,rfl,he,hm⟩:=mem_names.mp hp
    rw [Int.toNat_natCast,Bool.and_eq_true] at hi
    exact ⟨e,of_decide_eq_true hi.1,hm,of_decide_eq_true hi.2⟩
  · rintro ⟨e,h1,h2,h3⟩
    refine ⟨(e:Int),mem_names.mpr ⟨e,rfl,by omega,h2⟩,?_⟩
    rw [Int.toNat_natCast,decide_eq_true h1,decide_eq_true h3]
    rfl
theorem next_iff {m o:Str} {xs:List V}:nextB m o xs = true ↔ ∃ e,e + 1 < xs.length ∧ isM m (xs.getD e .non) = true ∧ isM o (xs.getD (e + 1) .non) = true:=by
  unfold nextB
  rw [List.any_eq_true]
  constructor
  · rintro ⟨p,hp,hf⟩
    obtain ⟨e,hpe⟩:=List.mem_iff_getElem?.mp hp
    have he:=(List.getElem?_eq_some_iff.mp hpe).1
    rw [List.length_zip,List.length_drop] at he
    obtain ⟨h1,h2⟩:=List.getElem?_zip_eq_some.mp hpe
    rw [List.getElem?_drop] at h2
    rw [Bool.and_eq_true] at hf
    refine ⟨e,by omega,?_,?_⟩
    · rw [List.getD_eq_getElem?_getD,h1]
      exact hf.1
    · rw [List.getD_eq_getElem?_getD,show e + 1 = 1 + e by omega,h2]
      exact hf.2
  · rintro ⟨e,h1,h2,h3⟩
    refine ⟨(xs.getD e .non,xs.getD (e + 1) .non),List.mem_iff_getElem?.mpr ⟨e,List.getElem?_zip_eq_some.mpr ⟨?_,?_⟩⟩,?_⟩
    · show xs[e]? = some (xs.getD e .non)
      rw [List.getD_eq_getElem?_getD,List.getElem?_eq_getElem (by omega:e < xs.length)]
      rfl
    · show (xs.drop 1)[e]? = some (xs.getD (e + 1) .non)
      rw [List.getElem?_drop,show 1 + e = e + 1 by omega,List.getD_eq_getElem?_getD,List.getElem?_eq_getElem h1]
      rfl
    · rw [h2,h3]
      rfl
theorem tab_get0 {w:Nat}:∀ {ls:List (List V)} (k j c:Nat),(∀ l ∈ ls,lineOk w l) → j < ls.length → c < w → (((ls.zipIdx k).map fun p=>p.1.zipIdx.map fun q=>((nmV q.1,(p.2:Int),(q.2:Int)):Spot)).flatten)[j * w + c]? = some (nmV ((ls.getD j []).getD c .non),((k + j:Nat):Int),(c:Int))
  | [],_,j,_,_,h,_=>by simp at h
  | l :: ls,k,j,c,hl,hj,hc=>by
    have l1:=(hl l List.mem_cons_self).1
    rw [List.zipIdx_cons,List.map_cons,List.flatten_cons]
    dsimp only
    cases j with
    | zero =>
      rw [Nat.zero_mul,Nat.zero_add,List.getElem?_append_left (by rw [List.length_map,List.length_zipIdx]; omega),List.getElem?_map,List.getElem?_zipIdx,List.getElem?_eq_getElem (by omega:c < l.length)]
      show some (nmV l[c],(k:Int),((0 + c:Nat):Int)) = some (nmV (l.getD c .non),((k + 0:Nat):Int),(c:Int))
      rw [List.getD_eq_getElem?_getD,List.getElem?_eq_getElem (by omega:c < l.length),Nat.zero_add,Nat.add_zero]
      rfl
    | succ j =>
      have e:(j + 1) * w + c = w + (j * w + c):=by rw [Nat.add_mul,Nat.one_mul]; omega
      rw [List.getElem?_append_right (by rw [List.length_map,List.length_zipIdx,l1,e]; omega),List.length_map,List.length_zipIdx,e,l1,Nat.add_sub_cancel_left,tab_get0 (k + 1) j c (fun m hm=>hl m (List.mem_cons_of_mem _ hm)) (by rw [List.length_cons] at hj; omega) hc]
      show some (_,((k + 1 + j:Nat):Int),_) = some (nmV ((ls.getD j []).getD c .non),((k + (j + 1):Nat):Int),(c:Int))
      rw [show k + 1 + j = k + (j + 1) by omega]
theorem tab_get {w:Nat} {ls:List (List V)} {j c:Nat} (hl:∀ l ∈ ls,lineOk w l) (hj:j < ls.length) (hc:c < w):(spotsS (.table ls w)).getD (j * w + c) ("",0,0) = (nmV ((ls.getD j []).getD c .non),(j:Int),(c:Int)):=by
  have:=tab_get0 0 j c hl hj hc
  rw [Nat.zero_add] at this
  rw [List.getD_eq_getElem?_getD]
  show ((((ls.zipIdx 0).map fun p=>p.1.zipIdx.map fun q=>((nmV q.1,(p.2:Int),(q.2:Int)):Spot)).flatten)[j * w + c]?).getD _ = _
  rw [this]
  rfl
theorem pos_lt {j c n w:Nat} (hj:j < n) (hc:c < w):j * w + c < n * w:=by
  have h:(j + 1) * w ≤ n * w:=Nat.mul_le_mul_right w hj
  rw [Nat.add_mul,Nat.one_mul] at h
  omega
theorem tab_split {ls:List (List V)} {w e:Nat} (hl:∀ l ∈ ls,lineOk w l) (h:e < (spotsS (.table ls w)).length):∃ j c,j < ls.length ∧ c < w ∧ e = j * w + c:=by
  rw [spots_tab_len,flat_le hl] at h
  have hw:0 < w:=by
    rcases Nat.eq_zero_or_pos w with h0 | h0
    · rw [h0,Nat.mul_zero] at h
      exact absurd h (Nat.not_lt_zero _)
    · exact h0
  exact ⟨e / w,e % w,Nat.div_lt_of_lt_mul (by rw [Nat.mul_comm]; exact h),Nat.mod_lt _ hw,(Nat.div_add_mod' e w).symm⟩
theorem tab_mark {ls:List (List V)} {w j c:Nat} (hl:∀ l ∈ ls,lineOk w l) (hj:j < ls.length) (hc:c < w):markV ((ls.getD j []).getD c .non) = true:=by
  have h:=hl _ (getD_mem (a:=[]) hj)
  exact List.all_eq_true.mp h.2 _ (getD_mem (by rw [h.1]; exact hc))
theorem underT_iff {ls:List (List V)} {w:Nat} {m o:Str} (hl:∀ l ∈ ls,lineOk w l):underT m o ls w = true ↔ ∃ c j1 j2,c < w ∧ j1 < j2 ∧ j2 < ls.length ∧ nmV ((ls.getD j1 []).getD c .non) = m ∧ nmV ((ls.getD j2 []).getD c .non) = o:=by
  have gm:∀ {c j:Nat},j < ls.length → (ls.map fun l=>l.getD c .non).getD j .non = (ls.getD j []).getD c .non:=fun {c j} hj=>by
    rw [List.getD_eq_getElem?_getD,List.getElem?_map,List.getD_eq_getElem?_getD (l:=ls),List.getElem?_eq_getElem hj]
    rfl
  unfold underT
  rw [List.any_eq_true]
  constructor
  · rintro ⟨c,hc,h⟩
    have hc':=List.mem_range.mp hc
    obtain ⟨e,l,h1,h2,h3,h4⟩:=ahead_iff.mp h
    rw [List.length_map] at h2
    rw [gm (by omega),isM_nm (tab_mark hl (by omega) hc')] at h3
    rw [gm h2,isM_nm (tab_mark hl h2 hc')] at h4
    exact ⟨c,e,l,hc',h1,h2,of_decide_eq_true h3,of_decide_eq_true h4⟩
  · rintro ⟨c,e,l,hc,h1,h2,h3,h4⟩
    refine ⟨c,List.mem_range.mpr hc,ahead_iff.mpr ⟨e,l,h1,by rw [List.length_map]; exact h2,?_,?_⟩⟩
    · rw [gm (by omega),isM_nm (tab_mark hl (by omega) hc)]
      exact decide_eq_true h3
    · rw [gm h2,isM_nm (tab_mark hl h2 hc)]
      exact decide_eq_true h4
theorem besideT_iff {ls:List (List V)} {w:Nat} {m o:Str} (hl:∀ l ∈ ls,lineOk w l):ls.any (nextB m o) = true ↔ ∃ j c,j < ls.length ∧ c + 1 < w ∧ nmV ((ls.getD j []).getD c .non) = m ∧ nmV ((ls.getD j []).getD (c + 1) .non) = o:=by
  rw [List.any_eq_true]
  constructor
  · rintro ⟨l,hm,h⟩
    obtain ⟨j,hj,rfl⟩:=List.mem_iff_getElem.mp hm
    obtain ⟨c,h1,h2,h3⟩:=next_iff.mp h
    have e:ls.getD j [] = ls[j]:=by rw [List.getD_eq_getElem?_getD,List.getElem?_eq_getElem hj]; rfl
    have hw:=(hl _ hm).1
    rw [← e] at h2 h3
    rw [isM_nm (tab_mark hl hj (by omega))] at h2
    rw [isM_nm (tab_mark hl hj (by omega))] at h3
    exact ⟨j,c,hj,by omega,of_decide_eq_true h2,of_decide_eq_true h3⟩
  · rintro ⟨j,c,hj,hc,h1,h2⟩
    refine ⟨ls.getD j [],getD_mem hj,next_iff.mpr ⟨c,by rw [(hl _ (getD_mem hj)).1]; exact hc,?_,?_⟩⟩
    · rw [isM_nm (tab_mark hl hj (by omega))]
      exact decide_eq_true h1
    · rw [isM_nm (tab_mark hl hj hc)]
      exact decide_eq_true h2
theorem dueUnder {d:Dsc} (o:DOk d) (m n:Str):underD d m n = dueS (underS d) (spotsS d) m n (pairsN (spotsS d).length):=by
  cases d with
  | row xs =>
    rw [Bool.eq_iff_iff,due_iff]
    constructor
    · intro h
      exact nomatch (show false = true from h)
    · rintro ⟨_,_,_,_,_,_,h⟩
      exact nomatch (show false = true from h)
  | forest ns =>
    rw [Bool.eq_iff_iff,due_iff]
    show underN m n ns = true ↔ _
    rw [underN_iff,spots_for_len]
    constructor
    · rintro ⟨e,l,h1,h2,h3,h4,h5⟩
      refine ⟨e,l,h1,h2,by rw [for_get (by omega)]; exact h3,by rw [for_get h2]; exact h4,above_iff.mpr fun j hj1 hj2=>?_⟩
      rw [for_dep (by omega),for_dep (by omega)]
      exact (tail_iff h2).mp h5 j hj1 hj2
    · rintro ⟨e,l,h1,h2,h3,h4,h5⟩
      rw [for_get (by omega)] at h3
      rw [for_get h2] at h4
      refine ⟨e,l,h1,h2,h3,h4,(tail_iff h2).mpr fun j hj1 hj2=>?_⟩
      have:=above_iff.mp h5 j hj1 hj2
      rwa [for_dep (by omega),for_dep (by omega)] at this
  | table ls w =>
    have hl:=o.2.2
    rw [Bool.eq_iff_iff,due_iff]
    show underT m n ls w = true ↔ _
    rw [underT_iff hl]
    have us:∀ e l,underS (.table ls w) e l = decide ((((spotsS (.table ls w)).getD e ("",0,0)).2.2) = ((spotsS (.table ls w)).getD l ("",0,0)).2.2):=fun _ _=>rfl
    constructor
    · rintro ⟨c,j1,j2,hc,h1,h2,h3,h4⟩
      have hlt:j1 * w < j2 * w:=Nat.mul_lt_mul_of_pos_right h1 (by omega)
      refine ⟨j1 * w + c,j2 * w + c,by omega,by rw [spots_tab_len,flat_le hl]; exact pos_lt h2 hc,by rw [tab_get hl (by omega) hc]; exact h3,by rw [tab_get hl h2 hc]; exact h4,?_⟩
      rw [us,tab_get hl (by omega) hc,tab_get hl h2 hc]
      exact decide_eq_true rfl
    · rintro ⟨e,l,h1,h2,h3,h4,h5⟩
      obtain ⟨j1,c1,a1,a2,rfl⟩:=tab_split hl (show e < _ by omega)
      obtain ⟨j2,c2,b1,b2,rfl⟩:=tab_split hl h2
      rw [us,tab_get hl a1 a2,tab_get hl b1 b2] at h5
      rw [tab_get hl a1 a2] at h3
      rw [tab_get hl b1 b2] at h4
      have ec:c1 = c2:=by
        have:(c1:Int) = (c2:Int):=of_decide_eq_true h5
        omega
      subst ec
      refine ⟨c1,j1,j2,a2,?_,b1,h3,h4⟩
      rcases Nat.lt_or_ge j1 j2 with h | h
      · exact h
      · have:=Nat.mul_le_mul_right w h
        omega
theorem dueBeside {d:Dsc} (o:DOk d) (m n:Str):besideD d m n = dueS (besideS d) (spotsS d) m n (pairsN (spotsS d).length):=by
  cases d with
  | row xs =>
    rw [Bool.eq_iff_iff,due_iff]
    show nextB m n xs = true ↔ _
    rw [next_iff,spots_row_len]
    constructor
    · rintro ⟨e,h1,h2,h3⟩
      have hx:=List.all_eq_true.mp o.1
      rw [isM_nm (hx _ (getD_mem (by omega)))] at h2
      rw [isM_nm (hx _ (getD_mem h1))] at h3
      refine ⟨e,e + 1,by omega,h1,by rw [row_get (by omega)]; exact of_decide_eq_true h2,by rw [row_get h1]; exact of_decide_eq_true h3,?_⟩
      show decide (((spotsS (.row xs)).getD (e + 1) ("",0,0)).2.2 = ((spotsS (.row xs)).getD e ("",0,0)).2.2 + 1) = true
      rw [row_get h1,row_get (by omega)]
      exact decide_eq_true (by show ((e + 1:Nat):Int) = (e:Int) + 1; omega)
    · rintro ⟨e,l,h1,h2,h3,h4,h5⟩
      have hx:=List.all_eq_true.mp o.1
      have h5':=of_decide_eq_true (show decide (((spotsS (.row xs)).getD l ("",0,0)).2.2 = ((spotsS (.row xs)).getD e ("",0,0)).2.2 + 1) = true from h5)
      rw [row_get (i:=e) (by omega)] at h3
      rw [row_get (i:=l) h2] at h4
      rw [row_get (i:=l) h2,row_get (i:=e) (by omega)] at h5'
      have el:l = e + 1:=by
        have:(l:Int) = (e:Int) + 1:=h5'
        omega
      subst el
      refine ⟨e,h2,?_,?_⟩
      · rw [isM_nm (hx _ (getD_mem (by omega)))]
        exact decide_eq_true h3
      · rw [isM_nm (hx _ (getD_mem h2))]
        exact decide_eq_true h4
  | forest ns =>
    rw [Bool.eq_iff_iff,due_iff]
    show besideN m n ns = true ↔ _
    rw [besideN_iff,spots_for_len]
    have bs:∀ e l,besideS (.forest ns) e l = (decide (depS (spotsS (.forest ns)) e = depS (spotsS (.forest ns)) l) && (List.range (l - (e + 1))).all fun j=>decide (depS (spotsS (.forest ns)) e < depS (spotsS (.forest ns)) (e + 1 + j))):=fun _ _=>rfl
    constructor
    · rintro ⟨e,h1,h2,h3⟩
      refine ⟨e,e + tailN ns e + 1,by omega,h1,by rw [for_get (by omega)]; exact h2,by rw [for_get h1,h3],?_⟩
      rw [bs,Bool.and_eq_true]
      refine ⟨decide_eq_true (by rw [for_dep (by omega),for_dep h1,h3]),List.all_eq_true.mpr fun j hj=>decide_eq_true ?_⟩
      have hj':=List.mem_range.mp hj
      rw [for_dep (by omega),for_dep (by omega)]
      exact (tail_iff (l:=e + 1 + j) (by omega)).mp (by omega) _ (by omega) (Nat.le_refl _)
    · rintro ⟨e,l,h1,h2,h3,h4,h5⟩
      rw [bs,Bool.and_eq_true] at h5
      have d1:=of_decide_eq_true h5.1
      rw [for_dep (by omega),for_dep h2] at d1
      rw [for_get (by omega)] at h3
      rw [for_get h2] at h4
      have up:l - 1 ≤ e + tailN ns e:=(tail_iff (l:=l - 1) (by omega)).mpr fun j hj1 hj2=>by
        have:=of_decide_eq_true (List.all_eq_true.mp h5.2 (j - (e + 1)) (List.mem_range.mpr (by omega)))
        rw [show e + 1 + (j - (e + 1)) = j by omega,for_dep (by omega),for_dep (by omega)] at this
        exact this
      have no:¬ l ≤ e + tailN ns e:=fun h=>by
        have:=(tail_iff h2).mp h l h1 (Nat.le_refl _)
        omega
      have el:l = e + tailN ns e + 1:=by omega
      subst el
      exact ⟨e,h2,h3,Prod.ext h4 d1.symm⟩
  | table ls w =>
    have hl:=o.2.2
    rw [Bool.eq_iff_iff,due_iff]
    show ls.any (nextB m n) = true ↔ _
    rw [besideT_iff hl]
    have dp:∀ {j c:Nat},j < ls.length → c < w → depS (spotsS (.table ls w)) (j * w + c) = (j:Int):=fun hj hc=>by
      unfold depS
      rw [tab_get hl hj hc]
    constructor
    · rintro ⟨j,c,hj,hc,h1,h2⟩
      refine ⟨j * w + c,j * w + (c + 1),by omega,by rw [spots_tab_len,flat_le hl]; exact pos_lt hj hc,by rw [tab_get hl hj (by omega)]; exact h1,by rw [tab_get hl hj hc]; exact h2,?_⟩
      rw [besT,tab_get hl hj hc,tab_get hl hj (by omega),dp hj hc,dp hj (by omega),decide_eq_true rfl,Bool.true_and]
      exact decide_eq_true (by show ((c + 1:Nat):Int) = (c:Int) + 1; omega)
    · rintro ⟨e,l,h1,h2,h3,h4,h5⟩
      obtain ⟨j1,c1,a1,a2,rfl⟩:=tab_split hl (show e < _ by omega)
      obtain ⟨j2,c2,b1,b2,rfl⟩:=tab_split hl h2
      rw [besT,tab_get hl a1 a2,tab_get hl b1 b2,dp a1 a2,dp b1 b2,Bool.and_eq_true] at h5
      rw [tab_get hl a1 a2] at h3
      rw [tab_get hl b1 b2] at h4
      have ej:j1 = j2:=by have:=of_decide_eq_true h5.1; omega
      subst ej
      have ec:c2 = c1 + 1:=by
        have:(c2:Int) = (c1:Int) + 1:=of_decide_eq_true h5.2
        omega
      subst ec
      exact ⟨j1,c1,a1,b2,h3,h4⟩
section
variable {P:Program} {w:World} {K:PySem.W.Frag} {mg:Str → Option Value} {base:Heap} {ad:Adr}
theorem ok_is_whole {f:Addr} {fd:FuncData} (D:Def K mg "is_whole" s_is_whole ["thing"] f fd) (T:Txt K mg ad):FnOk P w K mg base CX0 1 f fd ["thing"] sp_is_whole:=by
  refine D.F.ok sc_is_whole (fun vs H Q E h=>?_) (fun cdv A outer s H vs Q E hr h=>?_)
  · obtain ⟨v,rfl,_⟩:=h
    rfl
  · obtain ⟨v,rfl,t,k⟩:=h
    obtain ⟨y,ty,_,e2,e3⟩:=t.ty (K:=K)
    refine ⟨_,(pss_one (ps_ret (pe_and (pe_callB call_isiT rfl T.isinstance PyProof.Rows.boot_isinstance (pa_cons (pv 0) (pa_cons (pe_ty rfl T.int PyProof.Rows.boot_int) pa_nil))) (pe_one (pe_not (pe_callB call_isiT rfl T.isinstance PyProof.Rows.boot_isinstance (pa_cons (pv 0) (pa_cons (pe_ty rfl T.bool PyProof.Rows.boot_bool) pa_nil)))))))),?_⟩
    and_intros
    refine ⟨y,ty,_,e2,?_⟩
    cases t with
    | non=>exact iteF k
    | str x h=>exact iteF k
    | lst h=>exact iteF k
    | tup h=>exact iteF k
    | bl b=>exact iteT ⟨y,ty,_,e3,k⟩
    | int i=>exact iteT ⟨y,ty,_,e3,k⟩
theorem ok_is_mark {f:Addr} {fd:FuncData} (D:Def K mg "is_mark" s_is_mark ["thing"] f fd) (T:Txt K mg ad):FnOk P w K mg base CX0 1 f fd ["thing"] sp_is_mark:=by
  refine D.F.ok sc_is_mark (fun vs H Q E h=>?_) (fun cdv A outer s H vs Q E hr h=>?_)
  · obtain ⟨v,rfl,_⟩:=h
    rfl
  · obtain ⟨v,rfl,t,k⟩:=h
    obtain ⟨tk_LETTERS,h_LETTERS⟩:=T.g_LETTERS
    obtain ⟨tk_LONGEST_MARK,h_LONGEST_MARK⟩:=T.g_LONGEST_MARK
    obtain ⟨y,ty,e1,_,_⟩:=t.ty (K:=K)
    refine ⟨_,(pss_cons (ps_if (pt_not (pt_val (pe_callB call_isiT rfl T.isinstance PyProof.Rows.boot_isinstance (pa_cons (pv 0) (pa_cons (pe_ty rfl T.str PyProof.Rows.boot_str) pa_nil)))))
      (pss_one (ps_ret pe_bl))
      pss_nil)
      (pss_cons (ps_if (pt_not (pt_chain op_le op_le pe_int (pe_callB call_len_str rfl T.len PySem.boot_len (pa_cons (pv 0) pa_nil)) (pe_glob (v:=.int 8) rfl h_LONGEST_MARK ⟨_,rfl⟩)))
      (pss_one (ps_ret pe_bl))
      pss_nil)
      (pss_one (ps_ret (pe_callB (call_all rfl) rfl T.all (by decide +kernel) (pa_cons (pe_comp (own:=["sign"]) (cap:=[]) (ix:=[]) rfl (show CompScope ["thing"] (defScope s_is_mark) _ ["sign"] [] [] from ⟨rfl,by decide +kernel,by decide +kernel,by decide +kernel,by decide +kernel,by decide +kernel,by decide +kernel,rfl,by decide +kernel⟩) (pi_str (pv 0)) (fun C s₀ H₀ ex pn=>⟨pg_name (i:=0) (show (["sign"]:List Str).Nodup by decide +kernel) rfl (Or.inl rfl),pifs_nil,(pe_cmpR op_in_str (pv 0) (pe_glob (v:=.str LET) rfl h_LETTERS ⟨_,rfl⟩) rfl)⟩)) pa_nil)))))),?_⟩
    refine ⟨_,rfl,v,"str",y,_,rfl,ty,e1,_,rfl,?_⟩
    cases t with
    | non=>exact iteT (k H (Same.refl H))
    | int i=>exact iteT (k H (Same.refl H))
    | bl b=>exact iteT (k H (Same.refl H))
    | lst h=>exact iteT (k H (Same.refl H))
    | tup h=>exact iteT (k H (Same.refl H))
    | str x hx =>
      refine iteF ?_
      have hz:x.length ≤ sizeLine:=Nat.le_of_lt (small1000 hx)
      refine ⟨_,rfl,x,rfl,hz,_,_,rfl,rfl,_,rfl,?_⟩
      have km:∀ H',Same H H' → Q (.bl (markS x)) H':=k
      refine ite2 (fun h1=>?_) (fun h1=>?_)
      · have h1:1 ≤ x.length:=by have:=of_decide_eq_true h1; omega
        refine ⟨_,_,rfl,rfl,_,rfl,?_⟩
        refine ite2 (fun h2=>?_) (fun h2=>?_)
        · have h2:¬ x.length ≤ 8:=by simp at h2; omega
          have e:markS x = false:=by unfold markS; rw [decide_eq_false h2]; simp
          rw [e] at km
          exact km H (Same.refl H)
        · have h2:x.length ≤ 8:=by simp at h2; omega
          dsimp only [tNext,tRet,tCB,tCons]
          refine tcomp_str (z:=x) (fun R r=>⟨_,rfl,x,rfl,r⟩) (fun i ys H'=>H' = H ∧ ∃ bs:List Bool,ys = bs.map V.bl ∧ bs.length = i ∧ bs.all id = (x.cps.toList.take i).all letC) ⟨rfl,[],rfl,rfl,by simp⟩ ?_ ?_
          · rintro i c ys H' R hc ⟨rfl,bs,rfl,hb1,hb2⟩ hR
            refine ⟨_,rfl,_,_,rfl,rfl,?_,hR _ _ ⟨rfl,bs ++ [letC c],by simp [letC],by simp [hb1],?_⟩⟩
            · rw [List.length_map,hb1]
              have:i < x.cps.size:=(Array.getElem?_eq_some_iff.mp hc).1
              have hx':x.cps.size = x.length:=rfl
              omega
            · rw [all_take_succ (by simpa using hc),← hb2]
              simp
          · rintro ys H' ⟨rfl,bs,rfl,hb1,hb2⟩
            refine ⟨?_,fun Dd hD=>⟨Dd,bs,rfl,SqL.of upd_same,?_⟩⟩
            · rw [List.length_map,hb1]; exact hz
            · have e:bs.all id = markS x:=by
                rw [hb2,List.take_of_length_le (by simp)]
                unfold markS
                rw [decide_eq_true h1,decide_eq_true h2]
                simp
              rw [e]
              exact km _ fun b o q=>by rw [upd_ne (ne_of_none q hD)]; exact q
      · have h1:¬ 1 ≤ x.length:=by
          have q:(x.length:Int) < 1:=by simpa using h1
          omega
        have e:markS x = false:=by unfold markS; rw [decide_eq_false h1]; simp
        rw [e] at km
        exact ⟨_,rfl,iteT (km H (Same.refl H))⟩
theorem ok_check_list {f:Addr} {fd:FuncData} (D:Def K mg "check_list" s_check_list ["thing","most"] f fd) (T:Txt K mg ad):FnOk P w K mg base (CX1 P w) 1 f fd ["thing","most"] (sp_check_list ad):=by
  refine D.F.okX sc_check_list (fun vs H Q E h=>?_) (fun cdv A outer s H vs Q E hr h=>?_)
  · obtain ⟨v,n,rfl,_⟩:=h
    rfl
  · obtain ⟨v,n,rfl,t,kg,kb⟩:=h
    obtain ⟨y,b,ty,e,hb⟩:=t.isList (K:=K)
    refine ⟨_,(pss_cons (ps_if (pt_not (pt_val (pe_callB call_isiT rfl T.isinstance PyProof.Rows.boot_isinstance (pa_cons (pv 0) (pa_cons (pe_ty rfl T.list PyProof.Rows.boot_list) pa_nil)))))
      (pss_one (ps_raise T.e_NoThing rfl raises1 rfl (pa_cons pe_str pa_nil)))
      pss_nil)
      (pss_one (ps_if (pt_cmpR op_gt (pe_callB call_lenL rfl T.len PySem.boot_len (pa_cons (pv 0) pa_nil)) (pv 1) (nomark _))
      (pss_one (ps_raise T.e_NoThing rfl raises1 rfl (pa_cons pe_str pa_nil)))
      pss_nil))),?_⟩
    and_intros
    refine ⟨y,ty,b,e,?_⟩
    have h1:1 ≤ sizeLine:=by decide
    rcases hb with ⟨rfl,a,xs,rfl,ha⟩ | ⟨rfl,hb⟩
    · refine ite2 (fun z=>nomatch z) fun _=>⟨a,rfl,xs,SqL.of ha,ite2 (fun h=>⟨h1,kb ?_⟩) fun h=>kg ⟨a,xs,rfl,ha,by omega⟩⟩
      rintro ⟨a',xs',e',h',l'⟩
      cases e'
      rw [ha] at h'
      cases h'
      omega
    · refine ite2 (fun _=>⟨h1,kb ?_⟩) fun z=>absurd rfl z
      rintro ⟨a',xs',e',h',l'⟩
      exact hb a' xs' e' h'
theorem ok_check_marks {f:Addr} {fd:FuncData} (D:Def K mg "check_marks" s_check_marks ["marks","most"] f fd) (T:Txt K mg ad) {f_check_list:Addr} {fd_check_list:FuncData} (G_check_list:FnOk P w K mg base (CX1 P w) 1 f_check_list fd_check_list ["thing","most"] (sp_check_list ad)) {f_is_mark:Addr} {fd_is_mark:FuncData} (G_is_mark:FnOk P w K mg base CX0 1 f_is_mark fd_is_mark ["thing"] sp_is_mark) (D_check_list:Def K mg "check_list" s_check_list ["thing","most"] f_check_list fd_check_list) (D_is_mark:Def K mg "is_mark" s_is_mark ["thing"] f_is_mark fd_is_mark):FnOk P w K mg base (CX1 P w) 2 f fd ["marks","most"] (sp_check_marks ad):=by
  refine D.F.okX sc_check_marks (fun vs H Q E h=>?_) (fun cdv A outer s H vs Q E hr h=>?_)
  · obtain ⟨v,n,rfl,_⟩:=h
    rfl
  · obtain ⟨v,n,rfl,t,kg,kb⟩:=h
    refine ⟨_,(pss_cons (ps_expr (pe_call G_check_list (hr.mono (by decide)) rfl D_check_list.mg D_check_list.F.kp D_check_list.b .nil pass1 (pa_cons (pv 0) (pa_cons (pv 1) pa_nil))))
      (pss_one (ps_for PassesOwn.leaving rfl (pi_list (pv 0)) (pg_name (i:=2) sc_check_marks.nd rfl (Or.inl rfl))
      (pss_one (ps_if (pt_not (pt_val (pe_call G_is_mark (hr.mono (by decide)) rfl D_is_mark.mg D_is_mark.F.kp D_is_mark.b .nil pass0 (pa_cons (pv 2) pa_nil))))
      (pss_one (ps_raise T.e_NoThing rfl raises1 rfl (pa_cons pe_str pa_nil)))
      pss_nil))))),?_⟩
    and_intros
    refine ⟨v,n,rfl,t.1,fun hg=>?_,fun hb=>kb (fun ⟨a,xs,e,h,l,_⟩=>hb ⟨a,xs,e,h,l⟩) H (Same.refl H)⟩
    obtain ⟨a,xs,rfl,ha,hl⟩:=hg
    refine ⟨_,rfl,a,rfl,⟨_,SqL.of ha⟩,for_list (xs:=xs) (fun i σ H'=>Same H H' ∧ (xs.take i).all markV = true ∧ ∃ o,σ = [some (.ref a),some (.int n),o]) ⟨Same.refl H,by simp,_,rfl⟩ ?_ ?_ ?_⟩
    · rintro i σ H' _ ⟨s1,_,_⟩
      exact SqL.of (s1 _ _ ha)
    · rintro i x σ H' hx ⟨s1,h1,o,rfl⟩
      and_intros
      refine ⟨x,rfl,(t.2 a xs rfl ha x (List.mem_of_getElem? hx)).same s1,fun H2 s2=>?_⟩
      and_intros
      have h3:(xs.take (i + 1)).all markV = ((xs.take i).all markV && markV x):=by rw [List.take_add_one,hx]; simp
      refine ite2 (fun h2=>⟨by decide,kb ?_ H2 (s1.trans s2)⟩) fun h2=>⟨s1.trans s2,?_,_,rfl⟩
      · rintro ⟨a',xs',e',h',l',m'⟩
        cases e'
        rw [ha] at h'
        cases h'
        have:=List.all_eq_true.mp m' x (List.mem_of_getElem? hx)
        rw [h2] at this
        cases this
      · rw [h3,h1]
        cases hm:markV x
        · exact absurd hm h2
        · rfl
    · rintro σ H' ⟨s1,h1,o,rfl⟩
      rw [List.take_length] at h1
      exact kg ⟨a,xs,rfl,ha,hl,h1⟩ H' s1
theorem ok_check_node {f:Addr} {fd:FuncData} (D:Def K mg "check_node" s_check_node ["node","deepest"] f fd) (T:Txt K mg ad) {f_is_mark:Addr} {fd_is_mark:FuncData} (G_is_mark:FnOk P w K mg base CX0 1 f_is_mark fd_is_mark ["thing"] sp_is_mark) {f_is_whole:Addr} {fd_is_whole:FuncData} (G_is_whole:FnOk P w K mg base CX0 1 f_is_whole fd_is_whole ["thing"] sp_is_whole) (D_is_mark:Def K mg "is_mark" s_is_mark ["thing"] f_is_mark fd_is_mark) (D_is_whole:Def K mg "is_whole" s_is_whole ["thing"] f_is_whole fd_is_whole):FnOk P w K mg base (CX1 P w) 2 f fd ["node","deepest"] (sp_check_node ad):=by
  refine D.F.okX sc_check_node (fun vs H Q E h=>?_) (fun cdv A outer s H vs Q E hr h=>?_)
  · obtain ⟨v,d,rfl,_⟩:=h
    rfl
  · obtain ⟨v,d,rfl,t,kg,kb⟩:=h
    obtain ⟨y,b,ty,e,hb⟩:=t.1.isTup (K:=K)
    refine ⟨_,(pss_cons (ps_if (PW.pt (pw_or (pt_not (pt_val (pe_callB call_isiT rfl T.isinstance PyProof.Rows.boot_isinstance (pa_cons (pv 0) (pa_cons (pe_ty rfl T.tuple PyProof.Rows.boot_tuple) pa_nil))))) (pw_or1 (pt_cmpR op_ne (pe_callB call_lenT rfl T.len PySem.boot_len (pa_cons (pv 0) pa_nil)) pe_int (nomark _)))))
      (pss_one (ps_raise T.e_NoThing rfl raises1 rfl (pa_cons pe_str pa_nil)))
      pss_nil)
      (pss_cons (ps_if (pt_not (pt_val (pe_call G_is_mark (hr.mono (by decide)) rfl D_is_mark.mg D_is_mark.F.kp D_is_mark.b .nil pass0 (pa_cons (pe_ix ix_tup (pv 0) pe_int (fun _ _=>rfl)) pa_nil))))
      (pss_one (ps_raise T.e_NoThing rfl raises1 rfl (pa_cons pe_str pa_nil)))
      pss_nil)
      (pss_one (ps_if (PW.pt (pw_or (pt_not (pt_val (pe_call G_is_whole (hr.mono (by decide)) rfl D_is_whole.mg D_is_whole.F.kp D_is_whole.b .nil pass0 (pa_cons (pe_ix ix_tup (pv 0) pe_int (fun _ _=>rfl)) pa_nil)))) (pw_or1 (pt_not (pt_chain op_le op_le pe_int (pe_ix ix_tup (pv 0) pe_int (fun _ _=>rfl)) (pv 1))))))
      (pss_one (ps_raise T.e_NoThing rfl raises1 rfl (pa_cons pe_str pa_nil)))
      pss_nil)))),?_⟩
    and_intros
    refine ⟨y,ty,b,e,?_⟩
    have h1:1 ≤ sizeLine:=by decide
    rcases hb with ⟨rfl,a,xs,rfl,ha⟩ | ⟨rfl,hb⟩
    · and_intros
      have no:xs.length ≠ 2 → ∀ n,¬ NodeAt H (.ref a) n:=fun h n ⟨a',e',h'⟩=>by
        cases e'
        rw [ha] at h'
        cases h'
        exact h rfl
      refine ⟨xs,SqT.of ha,ite2 (fun h2=>⟨h1,kb (fun n hn=>absurd hn (no (by omega) n)) H (Same.refl H)⟩) fun h2=>?_⟩
      obtain ⟨x0,x1,rfl⟩:∃ x0 x1,xs = [x0,x1]:=by
        match xs,h2 with
        | [],h=>simp at h
        | [_],h=>simp at h
        | [x0,x1],_=>exact ⟨x0,x1,rfl⟩
        | _ :: _ :: _ :: r,h=>simp at h; omega
      have tx:∀ n,NodeAt H (.ref a) n → x0 = .str n.1 ∧ x1 = .int n.2:=fun n ⟨a',e',h'⟩=>by
        cases e'
        rw [ha] at h'
        simp at h'
        exact h'
      refine ⟨_,SqT.of ha,x0,rfl,x0,rfl,t.2 a _ rfl ha x0 (by simp),fun H1 s1=>⟨_,rfl,ite2 (fun hm=>⟨h1,kb (fun n hn=>?_) H1 s1⟩) fun hm=>?_⟩⟩
      · obtain ⟨e0,_⟩:=tx n hn
        subst e0
        rintro ⟨m1,_⟩
        exact absurd m1 (by rw [show markS n.1 = false from hm]; decide)
      · refine ⟨_,SqT.of (s1 _ _ ha),x1,rfl,x1,rfl,(t.2 a _ rfl ha x1 (by simp)).same s1,_,rfl,ite2 (fun hw=>⟨h1,kb (fun n hn=>?_) H1 s1⟩) fun hw=>?_⟩
        · obtain ⟨_,e1⟩:=tx n hn
          subst e1
          cases hw
        · obtain ⟨m,e0⟩:∃ m,x0 = .str m:=by
            cases x0 with
            | str m=>exact ⟨m,rfl⟩
            | _=>exact absurd rfl hm
          obtain ⟨k,e1⟩:∃ k,x1 = .int k:=by
            cases x1 with
            | int k=>exact ⟨k,rfl⟩
            | _=>exact absurd rfl hw
          subst e0 e1
          have hm':markS m = true:=by
            cases q:markS m
            · exact absurd q hm
            · rfl
          refine ⟨_,SqT.of (s1 _ _ ha),.int k,rfl,k,rfl,ite2 (fun h0=>⟨k,rfl,ite2 (fun h3=>⟨h1,kb (fun n hn=>?_) H1 s1⟩) fun h3=>?_⟩) fun h0=>⟨h1,kb (fun n hn=>?_) H1 s1⟩⟩
          · obtain ⟨_,e1⟩:=tx n hn
            cases e1
            rintro ⟨_,_,z⟩
            exact h3 z
          · exact kg (m,k) ⟨a,rfl,ha⟩ hm' h0 (by omega) H1 s1
          · obtain ⟨_,e1⟩:=tx n hn
            cases e1
            rintro ⟨_,z,_⟩
            exact h0 z
    · refine ite2 (fun _=>⟨h1,kb (fun n hn=>?_) H (Same.refl H)⟩) fun z=>absurd rfl z
      obtain ⟨a,e,h⟩:=hn
      exact absurd h (hb a _ e)
theorem ok_check_nodes {f:Addr} {fd:FuncData} (D:Def K mg "check_nodes" s_check_nodes ["nodes"] f fd) (T:Txt K mg ad) {f_check_list:Addr} {fd_check_list:FuncData} (G_check_list:FnOk P w K mg base (CX1 P w) 1 f_check_list fd_check_list ["thing","most"] (sp_check_list ad)) {f_check_node:Addr} {fd_check_node:FuncData} (G_check_node:FnOk P w K mg base (CX1 P w) 2 f_check_node fd_check_node ["node","deepest"] (sp_check_node ad)) (D_check_list:Def K mg "check_list" s_check_list ["thing","most"] f_check_list fd_check_list) (D_check_node:Def K mg "check_node" s_check_node ["node","deepest"] f_check_node fd_check_node):FnOk P w K mg base (CX1 P w) 3 f fd ["nodes"] (sp_check_nodes ad):=by
  refine D.F.okX sc_check_nodes (fun vs H Q E h=>?_) (fun cdv A outer s H vs Q E hr h=>?_)
  · obtain ⟨v,rfl,_⟩:=h
    rfl
  · obtain ⟨v,rfl,t,kg,kb⟩:=h
    obtain ⟨tk_MOST_NODES,h_MOST_NODES⟩:=T.g_MOST_NODES
    obtain ⟨tk_DEEPEST,h_DEEPEST⟩:=T.g_DEEPEST
    refine ⟨_,(pss_cons (ps_expr (pe_call G_check_list (hr.mono (by decide)) rfl D_check_list.mg D_check_list.F.kp D_check_list.b .nil pass1 (pa_cons (pv 0) (pa_cons (pe_glob (v:=.int 40) rfl h_MOST_NODES ⟨_,rfl⟩) pa_nil))))
      (pss_cons (ps_set (i:=1) sc_check_nodes.nd rfl (Or.inl rfl) pe_int)
      (pss_one (ps_for PassesOwn.leaving rfl (pi_list (pv 0)) (pg_name (i:=2) sc_check_nodes.nd rfl (Or.inl rfl))
      (pss_cons (ps_expr (pe_call G_check_node (hr.mono (by decide)) rfl D_check_node.mg D_check_node.F.kp D_check_node.b .nil pass1 (pa_cons (pv 2) (pa_cons (pv 1) pa_nil))))
      (pss_one (ps_set (i:=1) sc_check_nodes.nd rfl (Or.inl rfl) (pe_callB (call_min2 rfl) rfl T.min (by decide +kernel) (pa_cons (pe_op op_add (pe_ix ix_tup (pv 2) pe_int (fun _ _=>rfl)) pe_int) (pa_cons (pe_glob (v:=.int 12) rfl h_DEEPEST ⟨_,rfl⟩) pa_nil)))))))))),?_⟩
    and_intros
    refine ⟨v,40,rfl,t.1,fun hg=>?_,fun hb=>kb (fun ⟨a,xs,ns,e,h,l,_⟩=>hb ⟨a,xs,e,h,l⟩) H (Same.refl H)⟩
    obtain ⟨a,xs,rfl,ha,hl⟩:=hg
    refine ⟨_,rfl,a,rfl,⟨_,SqL.of ha⟩,for_list (xs:=xs) (fun i σ H'=>Same H H' ∧ ∃ (ns:List Nd) (o:Option V),NodesAt H (xs.take i) ns ∧ depthOk 0 ns ∧ StIs σ [some (.ref a),some (.int (deepAfter 0 ns)),o]) ⟨Same.refl H,[],none,by simp [NodesAt],trivial,StIs.rfl⟩ ?_ ?_ ?_⟩
    · rintro i σ H' _ ⟨s1,_⟩
      exact SqL.of (s1 _ _ ha)
    · rintro i x σ H' hx ⟨s1,ns,o,hn,hd,rfl⟩
      and_intros
      have tx:=t.2 a xs rfl ha x (List.mem_of_getElem? hx)
      have ex:xs.take (i + 1) = xs.take i ++ [x]:=by rw [List.take_add_one,hx]; rfl
      refine ⟨x,_,rfl,tx.same s1,fun n hn1 m1 m2 m3 H2 s2=>?_,fun hb H2 s2=>kb ?_ H2 (s1.trans s2)⟩
      · have hn0:=hn1.back tx.1 s1
        obtain ⟨tt,e,h2⟩:=hn1
        subst e
        and_intros
        refine ⟨_,SqT.of (s2 _ _ h2),_,rfl,_,rfl,s1.trans s2,ns ++ [n],?_,?_,some (.ref tt),?_⟩
        · rw [ex]; exact hn.append ⟨hn0,trivial⟩
        · exact depthOk_append.mpr ⟨hd,m1,m2,m3,trivial⟩
        · have e:deepAfter 0 (ns ++ [n]) = if 12 < n.2 + 1 then 12 else n.2 + 1:=by
            rw [deepAfter_append]
            show min (n.2 + 1) 12 = _
            split <;> omega
          rw [e]
          exact StIs.rfl
      · have e:xs = xs.take i ++ x :: xs.drop (i + 1):=by
          have h:=List.take_append_drop (i + 1) xs
          rw [ex,List.append_assoc] at h
          exact h.symm
        rw [e] at ha
        exact notN_mid ha hn fun n hn'=>hb n (hn'.same s1)
    · rintro σ H' ⟨s1,ns,o,hn,hd,rfl⟩
      rw [List.take_length] at hn
      exact kg ⟨a,xs,ns,rfl,ha,hl,hn,hd⟩ H' s1
theorem ok_check_lines {f:Addr} {fd:FuncData} (D:Def K mg "check_lines" s_check_lines ["lines"] f fd) (T:Txt K mg ad) {f_check_list:Addr} {fd_check_list:FuncData} (G_check_list:FnOk P w K mg base (CX1 P w) 1 f_check_list fd_check_list ["thing","most"] (sp_check_list ad)) {f_check_marks:Addr} {fd_check_marks:FuncData} (G_check_marks:FnOk P w K mg base (CX1 P w) 2 f_check_marks fd_check_marks ["marks","most"] (sp_check_marks ad)) (D_check_list:Def K mg "check_list" s_check_list ["thing","most"] f_check_list fd_check_list) (D_check_marks:Def K mg "check_marks" s_check_marks ["marks","most"] f_check_marks fd_check_marks):FnOk P w K mg base (CX1 P w) 3 f fd ["lines"] (sp_check_lines ad):=by
  refine D.F.okX sc_check_lines (fun vs H Q E h=>?_) (fun cdv A outer s H vs Q E hr h=>?_)
  · obtain ⟨v,rfl,_⟩:=h
    rfl
  · obtain ⟨v,rfl,t,kg,kb⟩:=h
    obtain ⟨tk_MOST_LINES,h_MOST_LINES⟩:=T.g_MOST_LINES
    obtain ⟨tk_MOST_COLUMNS,h_MOST_COLUMNS⟩:=T.g_MOST_COLUMNS
    refine ⟨_,(pss_cons (ps_expr (pe_call G_check_list (hr.mono (by decide)) rfl D_check_list.mg D_check_list.F.kp D_check_list.b .nil pass1 (pa_cons (pv 0) (pa_cons (pe_glob (v:=.int 12) rfl h_MOST_LINES ⟨_,rfl⟩) pa_nil))))
      (pss_one (ps_for PassesOwn.leaving rfl (pi_list (pv 0)) (pg_name (i:=1) sc_check_lines.nd rfl (Or.inl rfl))
      (pss_cons (ps_expr (pe_call G_check_marks (hr.mono (by decide)) rfl D_check_marks.mg D_check_marks.F.kp D_check_marks.b .nil pass1 (pa_cons (pv 1) (pa_cons (pe_glob (v:=.int 12) rfl h_MOST_COLUMNS ⟨_,rfl⟩) pa_nil))))
      (pss_one (ps_if (pt_cmpR op_ne (pe_callB call_lenL rfl T.len PySem.boot_len (pa_cons (pv 1) pa_nil)) (pe_callB call_lenL rfl T.len PySem.boot_len (pa_cons (pe_ix ix_list (pv 0) pe_int (fun _ _=>rfl)) pa_nil)) (nomark _))
      (pss_one (ps_raise T.e_NoThing rfl raises1 rfl (pa_cons pe_str pa_nil)))
      pss_nil)))))),?_⟩
    and_intros
    refine ⟨v,12,rfl,t.1,fun hg=>?_,fun hb=>kb (fun ⟨a,xs,ns,e,h,l,_⟩=>hb ⟨a,xs,e,h,l⟩) H (Same.refl H)⟩
    obtain ⟨a,xs,rfl,ha,hl⟩:=hg
    refine ⟨_,rfl,a,rfl,⟨_,SqL.of ha⟩,for_list (xs:=xs) (fun i σ H'=>Same H H' ∧ ∃ (ls:List (List V)) (o:Option V),RowsAt .lst H (xs.take i) ls ∧ tabOk ls ∧ StIs σ [some (.ref a),o]) ⟨Same.refl H,[],none,by simp [RowsAt],⟨0,Nat.zero_le _,fun _ z=>nomatch z⟩,StIs.rfl⟩ ?_ ?_ ?_⟩
    · rintro i σ H' _ ⟨s1,_⟩
      exact SqL.of (s1 _ _ ha)
    · rintro i x σ H' hx ⟨s1,ls,o,hn,hd,rfl⟩
      and_intros
      have xm:=List.mem_of_getElem? hx
      have tx:=t.2 a xs rfl ha x xm
      have ex:xs.take (i + 1) = xs.take i ++ [x]:=by rw [List.take_add_one,hx]; rfl
      refine ⟨x,12,rfl,tx.same s1,fun hg H2 s2=>?_,fun hb H2 s2=>kb ?_ H2 (s1.trans s2)⟩
      · obtain ⟨c,ys,rfl,hc,hl2,hm2⟩:=hg
        have hc0:=tx.1.back s1 rfl hc
        have s12:=s1.trans s2
        have hn':RowsAt .lst H (xs.take (i + 1)) (ls ++ [ys]):=by rw [ex]; exact hn.append ⟨⟨c,rfl,hc0⟩,trivial⟩
        have hi:i < xs.length:=(List.getElem?_eq_some_iff.mp hx).1
        have h0:(xs.take (i + 1))[0]? = some xs[0]:=by rw [List.getElem?_take_of_lt (by omega)]; exact List.getElem?_eq_getElem (by omega)
        obtain ⟨y0,ey0,c0,ec0,hc00⟩:=hn'.get h0
        and_intros
        refine ⟨_,SqL.of (s12 _ _ hc0),_,SqL.of (s12 _ _ ha),xs[0],atI_nat (j:=0) (List.getElem?_eq_getElem (by omega)),c0,ec0,_,SqL.of (s12 _ _ hc00),ite2 (fun hne=>?_) fun heq=>?_⟩
        · refine ⟨by decide,kb (notT_two ha (b:=xs[0]) (c:=.ref c) (List.getElem_mem _) xm ⟨c0,ec0,hc00⟩ ⟨c,rfl,hc0⟩ ?_) H2 s12⟩
          intro z
          exact hne (by rw [z])
        · refine ⟨s12,ls ++ [ys],hn',?_,some (.ref c),StIs.rfl⟩
          have heq':ys.length = y0.length:=by
            by_cases z:ys.length = y0.length
            · exact z
            · exact absurd (fun q=>z (by omega)) heq
          cases ls with
          | nil=>exact ⟨ys.length,hl2,fun l h=>by rw [List.mem_singleton.mp h]; exact ⟨rfl,hm2⟩⟩
          | cons l0 r =>
            have e0:l0 = y0:=by simpa using ey0
            subst e0
            obtain ⟨w,hw,hall⟩:=hd
            refine ⟨w,hw,fun l h=>?_⟩
            rcases List.mem_append.mp h with h | h
            · exact hall l h
            · rw [List.mem_singleton.mp h]
              exact ⟨heq'.trans (hall l0 List.mem_cons_self).1,hm2⟩
      · exact notT_mem ha xm fun g=>hb (GoodM.same s1 g)
    · rintro σ H' ⟨s1,ls,o,hn,hd,rfl⟩
      rw [List.take_length] at hn
      exact kg ⟨a,xs,ls,rfl,ha,hl,hn,hd⟩ H' s1
theorem ok_check_places {f:Addr} {fd:FuncData} (D:Def K mg "check_places" s_check_places ["places","many"] f fd) (T:Txt K mg ad) {f_is_whole:Addr} {fd_is_whole:FuncData} (G_is_whole:FnOk P w K mg base CX0 1 f_is_whole fd_is_whole ["thing"] sp_is_whole) (D_is_whole:Def K mg "is_whole" s_is_whole ["thing"] f_is_whole fd_is_whole):FnOk P w K mg base (CX1 P w) 2 f fd ["places","many"] (sp_check_places ad):=by
  refine D.F.okX sc_check_places (fun vs H Q E h=>?_) (fun cdv A outer s H vs Q E hr h=>?_)
  · obtain ⟨v,m,rfl,_⟩:=h
    rfl
  · obtain ⟨v,m,rfl,t,kg,kb⟩:=h
    obtain ⟨y,b,ty,e,hb⟩:=t.1.isList (K:=K)
    refine ⟨_,(pss_cons (ps_if (pt_not (pt_val (pe_callB call_isiT rfl T.isinstance PyProof.Rows.boot_isinstance (pa_cons (pv 0) (pa_cons (pe_ty rfl T.list PyProof.Rows.boot_list) pa_nil)))))
      (pss_one (ps_raise T.e_NoPlace rfl raises1 rfl (pa_cons pe_str pa_nil)))
      pss_nil)
      (pss_cons (ps_set (i:=2) sc_check_places.nd rfl (Or.inl rfl) pe_int)
      (pss_one (ps_for PassesOwn.leaving rfl (pi_list (pv 0)) (pg_name (i:=3) sc_check_places.nd rfl (Or.inl rfl))
      (pss_cons (ps_if (PW.pt (pw_or (pt_not (pt_val (pe_call G_is_whole (hr.mono (by decide)) rfl D_is_whole.mg D_is_whole.F.kp D_is_whole.b .nil pass0 (pa_cons (pv 3) pa_nil)))) (pw_or1 (pt_not (pt_chain op_le op_lt (pv 2) (pv 3) (pv 1))))))
      (pss_one (ps_raise T.e_NoPlace rfl raises1 rfl (pa_cons pe_str pa_nil)))
      pss_nil)
      (pss_one (ps_set (i:=2) sc_check_places.nd rfl (Or.inl rfl) (pe_op op_add (pv 3) pe_int)))))))),?_⟩
    and_intros
    refine ⟨y,ty,b,e,?_⟩
    have h1:1 ≤ sizeLine:=by decide
    rcases hb with ⟨rfl,a,xs,rfl,ha⟩ | ⟨rfl,hb⟩
    · and_intros
      refine ⟨_,rfl,a,rfl,⟨_,SqL.of ha⟩,for_list (xs:=xs) (fun i σ H'=>Same H H' ∧ ∃ (ps:List Int) (o:Option V),xs.take i = ps.map V.int ∧ placesOk 0 m ps ∧ StIs σ [some (.ref a),some (.int m),some (.int (lowAfter 0 ps)),o]) ⟨Same.refl H,[],none,by simp,trivial,StIs.rfl⟩ ?_ ?_ ?_⟩
      · rintro i σ H' _ ⟨s1,_⟩
        exact SqL.of (s1 _ _ ha)
      · rintro i x σ H' hx ⟨s1,ps,o,hps,hok,rfl⟩
        have tx:=t.2 a xs rfl ha x (List.mem_of_getElem? hx)
        have ex:xs = ps.map V.int ++ x :: xs.drop (i + 1):=by
          have h:=List.take_append_drop (i + 1) xs
          rw [List.take_add_one,hx,List.append_assoc,hps] at h
          exact h.symm
        have no:(∀ q,x = .int q → ¬ (lowAfter 0 ps ≤ q ∧ q < m)) → ¬ GoodP m H (.ref a):=fun h=>notP_mid (by rw [← ex]; exact ha) h
        and_intros
        refine ⟨x,rfl,tx.same s1,_,rfl,ite2 (fun hw=>⟨h1,kb (no fun q e=>?_) H' s1⟩) fun hw=>?_⟩
        · subst e; cases hw
        · obtain ⟨q,rfl⟩:∃ q,x = .int q:=by
            cases x with
            | int q=>exact ⟨q,rfl⟩
            | _=>exact absurd rfl hw
          refine ⟨q,rfl,ite2 (fun h0=>⟨q,rfl,ite2 (fun h2=>⟨h1,kb (no fun q' e z=>?_) H' s1⟩) fun h2=>⟨q,rfl,s1,ps ++ [q],?_,?_,some (.int q),?_⟩⟩) fun h0=>⟨h1,kb (no fun q' e z=>?_) H' s1⟩⟩
          · cases e; exact h2 z.2
          · rw [List.take_add_one,hx,hps,List.map_append]; rfl
          · exact placesOk_append.mpr ⟨hok,h0,by omega,trivial⟩
          · rw [lowAfter_append]; exact StIs.rfl
          · cases e; exact h0 z.1
      · rintro σ H' ⟨s1,ps,o,hps,hok,rfl⟩
        rw [List.take_length] at hps
        exact kg ⟨a,ps,rfl,by rw [← hps]; exact ha,hok⟩ H' s1
    · and_intros
      refine ⟨h1,kb (fun ⟨a,ps,e,h,_⟩=>hb a _ e h) H (Same.refl H)⟩
theorem ok_marks_at {f:Addr} {fd:FuncData} (D:Def K mg "marks_at" s_marks_at ["marks","places"] f fd) (T:Txt K mg ad):FnOk P w K mg base CX0 1 f fd ["marks","places"] (sp_marks_at K):=by
  refine D.F.ok sc_marks_at (fun vs H Q E h=>?_) (fun cdv A outer s H vs Q E hr h=>?_)
  · obtain ⟨t,a,xs,ps,rfl,_⟩:=h
    rfl
  · obtain ⟨t,a,xs,ps,rfl,ht,ha,hps,hl,k⟩:=h
    refine ⟨_,(pss_one (ps_ret (pe_comp (own:=["place"]) (cap:=["marks"]) (ix:=[0]) rfl (show CompScope ["marks","places"] (defScope s_marks_at) _ ["place"] ["marks"] [0] from ⟨rfl,by decide +kernel,by decide +kernel,by decide +kernel,by decide +kernel,by decide +kernel,by decide +kernel,rfl,by decide +kernel⟩) (pi_list (pv 1)) (fun C s₀ H₀ ex pn=>⟨pg_name (i:=0) (show (["place","marks"]:List Str).Nodup by decide +kernel) rfl (Or.inl rfl),pifs_nil,(pe_ix (show IxR _ (rIxT K) from ix_tup) (pv 1) (pv 0) (fun _ _=>rfl))⟩)))),?_⟩
    and_intros
    refine tcomp_list (a:=a) (xs:=ps.map V.int) (H1:=H) (fun R rr=>⟨_,rfl,a,rfl,⟨_,SqL.of ha⟩,rr⟩) (fun i ys H'=>H' = H ∧ ys = (ps.take i).map fun p=>xs.getD p.toNat .non) ⟨rfl,rfl⟩ (fun i ys H' _ ⟨e,_⟩=>e ▸ SqL.of ha) ?_ ?_
    · rintro i x ys H' R hx ⟨rfl,rfl⟩ hR
      rw [List.getElem?_map] at hx
      obtain ⟨p,ep,rfl⟩:=Option.map_eq_some_iff.mp hx
      obtain ⟨p0,p1⟩:=hps p (List.mem_of_getElem? ep)
      simp only [tYes]
      and_intros
      obtain ⟨pn,rfl⟩:=Int.eq_ofNat_of_zero_le p0
      have hpn:pn < xs.length:=by omega
      refine ⟨_,ht,xs[pn],atI_nat (List.getElem?_eq_getElem hpn),?_,hR _ _ ⟨rfl,?_⟩⟩
      · rw [List.length_map,List.length_take]; exact small1000 (by omega)
      · rw [List.take_add_one,ep,List.map_append]
        congr 1
        simp only [Option.toList,List.map_cons,List.map_nil,Int.toNat_natCast,List.getD_eq_getElem?_getD,List.getElem?_eq_getElem hpn,Option.getD_some]
    · rintro ys H' ⟨rfl,rfl⟩
      rw [show (ps.map V.int).length = ps.length from List.length_map _,List.take_length]
      exact ⟨by rw [List.length_map]; exact Nat.le_of_lt (small1000 (by omega)),k⟩
theorem ok_places_of {f:Addr} {fd:FuncData} (D:Def K mg "places_of" s_places_of ["marks","mark"] f fd) (T:Txt K mg ad):FnOk P w K mg base CX0 1 f fd ["marks","mark"] (sp_places_of K):=by
  refine D.F.ok sc_places_of (fun vs H Q E h=>?_) (fun cdv A outer s H vs Q E hr h=>?_)
  · obtain ⟨t,xs,m,rfl,_⟩:=h
    rfl
  · obtain ⟨t,xs,m,rfl,hq,hm,hl,k⟩:=h
    refine ⟨_,(pss_one (ps_ret (pe_comp (own:=["place","found"]) (cap:=["mark"]) (ix:=[1]) rfl (show CompScope ["marks","mark"] (defScope s_places_of) _ ["place","found"] ["mark"] [1] from ⟨rfl,by decide +kernel,by decide +kernel,by decide +kernel,by decide +kernel,by decide +kernel,by decide +kernel,rfl,by decide +kernel⟩) (pi_enumT rfl T.enumerate (pa_cons (pv 0) pa_nil)) (fun C s₀ H₀ ex pn=>⟨(show PG _ _ (gTup K 2 (gCons (gName 0) (gCons (gName 1) gNil))) from pg_two (i:=0) (j:=1) rfl (show (["place","found","mark"]:List Str).Nodup by decide +kernel) rfl rfl (Or.inl rfl) (Or.inl rfl)),(pifs_one (pt_cmpR op_eq (pv 1) (pv 2) (nomark _))),(pv 0)⟩)))),?_⟩
    and_intros
    refine tcomp_enumT (K:=K) (a:=t) (xs:=xs) (H1:=H) (fun R rr=>⟨_,rfl,t,rfl,⟨_,hq⟩,rr⟩) (fun i ys H'=>Same H H' ∧ ys = (idxs (isM m) 0 (xs.take i)).map V.int) ⟨Same.refl _,rfl⟩ (fun i ys H' _ ⟨e,_⟩=>SqT.same e hq) ?_ ?_
    · rintro i x ys H' T' R hx ⟨s1,rfl⟩ hT hR
      obtain ⟨z,rfl⟩:=mark_str (List.all_eq_true.mp hm x (List.mem_of_getElem? hx))
      have hi:=(List.getElem?_eq_some_iff.mp hx).1
      have e:=idxs_take (P:=isM m) hx
      and_intros
      have l1:((idxs (isM m) 0 (xs.take i)).map V.int).length < sizeLine:=by
        rw [List.length_map]
        have e1:=idxs_le (isM m) (xs.take i) 0
        rw [List.length_take] at e1
        exact small1000 (by omega)
      have em:isM m (.str z) = decide (z = m):=by
        show (z == m) = decide (z = m)
        by_cases h:z = m <;> simp [h]
      rw [em] at e
      by_cases hz:z = m
      · rw [if_pos hz]
        rw [if_pos (decide_eq_true hz)] at e
        exact ⟨l1,hR _ _ ⟨s1.upd hT,by rw [e,List.map_append]; rfl⟩⟩
      · rw [if_neg hz]
        rw [if_neg (by simp [hz]),List.append_nil] at e
        exact hR _ _ ⟨s1.upd hT,by rw [e]⟩
    · rintro ys H' ⟨s1,rfl⟩
      rw [List.take_length]
      exact ⟨by rw [List.length_map]; have:=idxs_le (isM m) xs 0; exact Nat.le_of_lt (small1000 (by omega)),fun D hD=>k D _ (Same.none s1 hD) (s1.upd hD) upd_same⟩
theorem ok_stands_ahead {f:Addr} {fd:FuncData} (D:Def K mg "stands_ahead" s_stands_ahead ["marks","one","other"] f fd) (T:Txt K mg ad):FnOk P w K mg base CX0 1 f fd ["marks","one","other"] (sp_stands_ahead K):=by
  refine D.F.ok sc_stands_ahead (fun vs H Q E h=>?_) (fun cdv A outer s H vs Q E hr h=>?_)
  · obtain ⟨t,xs,one,other,rfl,_⟩:=h
    rfl
  · obtain ⟨t,xs,one,other,rfl,hq,hm,k⟩:=h
    refine ⟨_,(pss_cons (ps_set (i:=3) sc_stands_ahead.nd rfl (Or.inl rfl) pe_bl)
      (pss_cons (ps_for PassesOwn.never rfl (pi_either (pi_list (pv 0)) (pi_tup (pv 0))) (pg_name (i:=4) sc_stands_ahead.nd rfl (Or.inl rfl))
      (pss_cons (ps_if (PW.pt (pw_and (pt_val (pv 3)) (pw_and1 (pt_cmpR op_eq (pv 4) (pv 2) (nomark _)))))
      (pss_one (ps_ret pe_bl))
      pss_nil)
      (pss_one (ps_if (pt_cmpR op_eq (pv 4) (pv 1) (nomark _))
      (pss_one (ps_set (i:=3) sc_stands_ahead.nd rfl (Or.inl rfl) pe_bl))
      pss_nil))))
      (pss_one (ps_ret pe_bl)))),?_⟩
    refine tseq_open fun B hB=>?_
    and_intros
    subst hB
    refine tseq_open fun B hB=>?_
    refine (show tFor _ _ _ _ _ _ from ?_)
    unfold tFor
    rcases hq with hq | hq
    · refine .inl ⟨_,rfl,t,rfl,⟨_,hq⟩,for_list (xs:=xs) (fun i σ H'=>H' = H ∧ ∃ o5:Option V,aheadB one other (xs.take i) = false ∧ StIs σ [some (.ref t),some (.str one),some (.str other),some (.bl ((xs.take i).any (isM one))),o5]) ⟨rfl,none,rfl,StIs.rfl⟩ (fun i σ H' _ ⟨e,_⟩=>e ▸ hq) ?_ ?_⟩
      · rintro i x σ H' hx ⟨rfl,o5,ha,rfl⟩
        obtain ⟨z,rfl⟩:=mark_str (List.all_eq_true.mp hm x (List.mem_of_getElem? hx))
        have e:xs.take (i + 1) = xs.take i ++ [.str z]:=by rw [List.take_add_one,hx]; rfl
        have f:aheadB one other (xs.take (i + 1)) = ((xs.take i).any (isM one) && isM other (.str z)):=by
          rw [e,aheadB_append,ha]
          simp [aheadB]
        have g:(xs.take (i + 1)).any (isM one) = ((xs.take i).any (isM one) || isM one (.str z)):=by rw [e,List.any_append]; simp
        have up:aheadB one other (xs.take (i + 1)) = true → aheadB one other xs = true:=fun q=>by
          rw [← List.take_append_drop (i + 1) xs,aheadB_append,q]
          simp
        have em:∀ m:Str,isM m (.str z) = decide (z = m):=fun m=>by
          show (z == m) = decide (z = m)
          by_cases h:z = m <;> simp [h]
        and_intros
        rw [em] at f g
        generalize (xs.take i).any (isM one) = seen at f g ⊢
        generalize (xs.take (i + 1)).any (isM one) = seen' at g ⊢
        have fin:aheadB one other (xs.take (i + 1)) = false → (if z = one then aheadB one other (xs.take (i + 1)) = false ∧ ∃ x,StIs [some (V.ref t),some (V.str one),some (V.str other),some (V.bl true),some (V.str z)] [some (V.ref t),some (V.str one),some (V.str other),some (V.bl seen'),x] else aheadB one other (xs.take (i + 1)) = false ∧ ∃ x,StIs [some (V.ref t),some (V.str one),some (V.str other),some (V.bl seen),some (V.str z)] [some (V.ref t),some (V.str one),some (V.str other),some (V.bl seen'),x]):=fun f'=>by
          by_cases h1:z = one
          · rw [if_pos h1,g,decide_eq_true h1,Bool.or_true]; exact ⟨f',_,StIs.rfl⟩
          · rw [if_neg h1,g,decide_eq_false h1,Bool.or_false]; exact ⟨f',_,StIs.rfl⟩
        by_cases h2:z = other
        · cases seen
          · rw [if_neg (by decide)]
            exact fin (by rw [f]; rfl)
          · rw [if_pos rfl,if_pos h2]
            rw [up (by rw [f,decide_eq_true h2]; rfl)] at k
            exact k
        · cases seen
          · rw [if_neg (by decide)]
            exact fin (by rw [f]; rfl)
          · rw [if_pos rfl,if_neg h2]
            exact fin (by rw [f,decide_eq_false h2]; rfl)
      · rintro σ H' ⟨rfl,o5,ha,rfl⟩
        dsimp only
        subst hB
        and_intros
        rw [List.take_length] at ha
        rw [ha] at k
        exact k
    · refine .inr ⟨_,rfl,t,rfl,⟨_,hq⟩,for_tup (xs:=xs) (fun i σ H'=>H' = H ∧ ∃ o5:Option V,aheadB one other (xs.take i) = false ∧ StIs σ [some (.ref t),some (.str one),some (.str other),some (.bl ((xs.take i).any (isM one))),o5]) ⟨rfl,none,rfl,StIs.rfl⟩ (fun i σ H' _ ⟨e,_⟩=>e ▸ hq) ?_ ?_⟩
      · rintro i x σ H' hx ⟨rfl,o5,ha,rfl⟩
        obtain ⟨z,rfl⟩:=mark_str (List.all_eq_true.mp hm x (List.mem_of_getElem? hx))
        have e:xs.take (i + 1) = xs.take i ++ [.str z]:=by rw [List.take_add_one,hx]; rfl
        have f:aheadB one other (xs.take (i + 1)) = ((xs.take i).any (isM one) && isM other (.str z)):=by
          rw [e,aheadB_append,ha]
          simp [aheadB]
        have g:(xs.take (i + 1)).any (isM one) = ((xs.take i).any (isM one) || isM one (.str z)):=by rw [e,List.any_append]; simp
        have up:aheadB one other (xs.take (i + 1)) = true → aheadB one other xs = true:=fun q=>by
          rw [← List.take_append_drop (i + 1) xs,aheadB_append,q]
          simp
        have em:∀ m:Str,isM m (.str z) = decide (z = m):=fun m=>by
          show (z == m) = decide (z = m)
          by_cases h:z = m <;> simp [h]
        and_intros
        rw [em] at f g
        generalize (xs.take i).any (isM one) = seen at f g ⊢
        generalize (xs.take (i + 1)).any (isM one) = seen' at g ⊢
        have fin:aheadB one other (xs.take (i + 1)) = false → (if z = one then aheadB one other (xs.take (i + 1)) = false ∧ ∃ x,StIs [some (V.ref t),some (V.str one),some (V.str other),some (V.bl true),some (V.str z)] [some (V.ref t),some (V.str one),some (V.str other),some (V.bl seen'),x] else aheadB one other (xs.take (i + 1)) = false ∧ ∃ x,StIs [some (V.ref t),some (V.str one),some (V.str other),some (V.bl seen),some (V.str z)] [some (V.ref t),some (V.str one),some (V.str other),some (V.bl seen'),x]):=fun f'=>by
          by_cases h1:z = one
          · rw [if_pos h1,g,decide_eq_true h1,Bool.or_true]; exact ⟨f',_,StIs.rfl⟩
          · rw [if_neg h1,g,decide_eq_false h1,Bool.or_false]; exact ⟨f',_,StIs.rfl⟩
        by_cases h2:z = other
        · cases seen
          · rw [if_neg (by decide)]
            exact fin (by rw [f]; rfl)
          · rw [if_pos rfl,if_pos h2]
            rw [up (by rw [f,decide_eq_true h2]; rfl)] at k
            exact k
        · cases seen
          · rw [if_neg (by decide)]
            exact fin (by rw [f]; rfl)
          · rw [if_pos rfl,if_neg h2]
            exact fin (by rw [f,decide_eq_false h2]; rfl)
      · rintro σ H' ⟨rfl,o5,ha,rfl⟩
        dsimp only
        subst hB
        and_intros
        rw [List.take_length] at ha
        rw [ha] at k
        exact k
theorem ok_stands_right_ahead {f:Addr} {fd:FuncData} (D:Def K mg "stands_right_ahead" s_stands_right_ahead ["marks","one","other"] f fd) (T:Txt K mg ad):FnOk P w K mg base CX0 1 f fd ["marks","one","other"] sp_stands_right_ahead:=by
  refine D.F.ok sc_stands_right_ahead (fun vs H Q E h=>?_) (fun cdv A outer s H vs Q E hr h=>?_)
  · obtain ⟨t,xs,one,other,rfl,_⟩:=h
    rfl
  · obtain ⟨t,xs,one,other,rfl,hq,hm,hl,k⟩:=h
    refine ⟨_,(pss_one (ps_ret (pe_callB (call_any rfl) rfl T.any (by decide +kernel) (pa_cons (pe_comp (own:=["first","second"]) (cap:=["one","other"]) (ix:=[1,2]) rfl (show CompScope ["marks","one","other"] (defScope s_stands_right_ahead) _ ["first","second"] ["one","other"] [1,2] from ⟨rfl,by decide +kernel,by decide +kernel,by decide +kernel,by decide +kernel,by decide +kernel,by decide +kernel,rfl,by decide +kernel⟩) (pi_zipT rfl T.zip (pa_cons (pv 0) (pa_cons (pe_slice sl_tupA (pv 0) (po_some pe_int) po_none) pa_nil))) (fun C s₀ H₀ ex pn=>⟨(show PG _ _ (gTup K 2 (gCons (gName 0) (gCons (gName 1) gNil))) from pg_two (i:=0) (j:=1) rfl (show (["first","second","one","other"]:List Str).Nodup by decide +kernel) rfl rfl (Or.inl rfl) (Or.inl rfl)),pifs_nil,(pe_and (pe_cmpR op_eq (pv 0) (pv 2) (nomark _)) (pe_one (pe_cmpR op_eq (pv 1) (pv 3) (nomark _))))⟩)) pa_nil)))),?_⟩
    and_intros
    refine (show iZipT _ _ _ _ from ?_)
    refine split_it (fun J H1=>∃ b ys,Same H H1 ∧ Rd H1 b (.tup ys) ∧ ys = xs.drop 1 ∧ J = Ittz t b) (fun G' hG=>?_) ?_
    · and_intros
      refine ⟨xs,.inl hq,fun hw=>⟨⟨_,hq⟩,⟨_,hq⟩,hG _ _ ⟨t,xs,Same.refl _,hq,?_,rfl⟩⟩,fun hw p hp=>⟨⟨_,rdSame (Same.put hp) hq⟩,⟨_,.inl upd_same⟩,hG _ _ ⟨p,_,Same.put hp,.inl upd_same,?_,rfl⟩⟩⟩
      · have:min 1 xs.length = 0:=hw.1
        have:xs = []:=List.length_eq_zero_iff.mp (by omega)
        rw [this]
        rfl
      · exact cut_from rfl
    · rintro _ H1 ⟨b,ys,s1,hb,rfl,rfl⟩
      have hq1:=rdSame s1 hq
      refine comp_zipT (K:=K) (xs:=xs) (ys:=xs.drop 1) (Q:=fun x H1=>∃ p,x = V.ref p ∧ ∃ x,SqL K H1 p (List.map V.bl x) ∧ Q (V.bl (x.any id)) H1) (fun i zs H'=>Same H1 H' ∧ zs = (((xs.zip (xs.drop 1)).take i).map fun p=>isM one p.1 && isM other p.2).map V.bl) ⟨Same.refl _,rfl⟩ (fun i zs H' ⟨e,_⟩=>⟨rdSame e hq1,rdSame e hb⟩) ?_ ?_
      · rintro i x y zs H' T' R hx hy ⟨s2,rfl⟩ hT hR
        obtain ⟨z1,rfl⟩:=mark_str (List.all_eq_true.mp hm x (List.mem_of_getElem? hx))
        obtain ⟨z2,rfl⟩:=mark_str (List.all_eq_true.mp hm y (List.mem_of_mem_drop (List.mem_of_getElem? hy)))
        have l1:((((xs.zip (xs.drop 1)).take i).map fun p=>isM one p.1 && isM other p.2).map V.bl).length < sizeLine:=by
          have:=(List.getElem?_eq_some_iff.mp hx).1
          rw [List.length_map,List.length_map,List.length_take,List.length_zip]
          exact small1000 (by omega)
        have e2:(((xs.zip (xs.drop 1)).take (i + 1)).map fun p=>isM one p.1 && isM other p.2).map V.bl = (((xs.zip (xs.drop 1)).take i).map fun p=>isM one p.1 && isM other p.2).map V.bl ++ [V.bl (decide (z1 = one) && decide (z2 = other))]:=by
          rw [List.take_add_one,(List.getElem?_zip_eq_some (z:=(V.str z1,V.str z2))).mpr ⟨hx,hy⟩,← isM_str one,← isM_str other,List.map_append,List.map_append]
          rfl
        and_intros
        refine tYes_in ?_
        by_cases h1:z1 = one
        · rw [if_pos h1]
          rw [decide_eq_true h1,Bool.true_and] at e2
          exact ⟨l1,hR _ _ ⟨s2.upd hT,e2.symm⟩⟩
        · rw [if_neg h1]
          rw [decide_eq_false h1,Bool.false_and] at e2
          exact ⟨l1,hR _ _ ⟨s2.upd hT,e2.symm⟩⟩
      · rintro zs H' ⟨s2,rfl⟩
        and_intros
        rw [List.take_of_length_le (by rw [List.length_zip]; exact Nat.le_refl _)]
        refine ⟨by rw [List.length_map,List.length_map,List.length_zip]; exact Nat.le_of_lt (small1000 (by omega)),fun D hD=>⟨_,SqL.of upd_same,?_⟩⟩
        rw [List.any_map]
        exact k _ ((s1.trans s2).upd hD)
theorem ok_Thing_init {f:Addr} {fd:FuncData} (F:Fun K "__init__" "Thing.__init__" s_Thing_init f fd) (T:Txt K mg ad):FnOk P w K mg base CX0 1 f fd ["self","spot_marks"] (sp_Thing_init ad):=by
  refine F.ok sc_Thing_init (fun vs H Q E h=>?_) (fun cdv A outer s H vs Q E hr h=>?_)
  · obtain ⟨p,dx,a,xs,c,rfl,_⟩:=h
    rfl
  · obtain ⟨p,dx,a,xs,c,rfl,hc,hp,ha,k⟩:=h
    refine ⟨_,(pss_one (ps_fld (pv 0) (pe_callTy call_tupF rfl T.tuple PyProof.Rows.boot_tuple (pa_cons (pv 1) pa_nil)) rfl)),?_⟩
    and_intros
    refine ⟨_,SqL.of ha,fun t o ht hoc hod=>?_⟩
    rcases hc with rfl | rfl | rfl
    · refine ⟨ad.Row,dx,[],?_,T.cl_Row,T.na_Row_spot_marks,by decide,?_⟩
      · rw [upd_ne (ne_of_none hp ht)]; exact hp
      · exact k t o ht hoc hod
    · refine ⟨ad.Table,dx,[],?_,T.cl_Table,T.na_Table_spot_marks,by decide,?_⟩
      · rw [upd_ne (ne_of_none hp ht)]; exact hp
      · exact k t o ht hoc hod
    · refine ⟨ad.Forest,dx,[],?_,T.cl_Forest,T.na_Forest_spot_marks,by decide,?_⟩
      · rw [upd_ne (ne_of_none hp ht)]; exact hp
      · exact k t o ht hoc hod
theorem ok_Thing_is_before {f:Addr} {fd:FuncData} (F:Fun K "is_before" "Thing.is_before" s_Thing_is_before f fd) (T:Txt K mg ad) {f_stands_ahead:Addr} {fd_stands_ahead:FuncData} (G_stands_ahead:FnOk P w K mg base CX0 1 f_stands_ahead fd_stands_ahead ["marks","one","other"] (sp_stands_ahead K)) (D_stands_ahead:Def K mg "stands_ahead" s_stands_ahead ["marks","one","other"] f_stands_ahead fd_stands_ahead):FnOk P w K mg base CX0 2 f fd ["self","one","other"] (sp_is_before ad):=by
  refine F.ok sc_Thing_is_before (fun vs H Q E h=>?_) (fun cdv A outer s H vs Q E hr h=>?_)
  · obtain ⟨p,d,one,other,rfl,_⟩:=h
    rfl
  · obtain ⟨p,d,one,other,rfl,h,k⟩:=h
    refine ⟨_,(pss_one (ps_ret (pe_call G_stands_ahead (hr.mono (by decide)) rfl D_stands_ahead.mg D_stands_ahead.F.kp D_stands_ahead.b .nil pass0 (pa_cons (pe_fld (pv 0) rfl) (pa_cons (pv 1) (pa_cons (pv 2) pa_nil)))))),?_⟩
    and_intros
    cases d with
    | row xs =>
      obtain ⟨dx,t,h1,h2,h3,h4⟩:=h
      exact ⟨ad.Row,dx,_,h1,T.cl_Row,T.na_Row_spot_marks,.ref t,rfl,t,xs,one,other,rfl,.inr h2.sq,h3,k⟩
    | forest ns =>
      obtain ⟨⟨dx,t1,t2,xs,h1,h2,h3,h4⟩,h5,_⟩:=h
      refine ⟨ad.Forest,dx,_,h1,T.cl_Forest,T.na_Forest_spot_marks,.ref t1,rfl,t1,_,one,other,rfl,.inr h2.sq,?_,k⟩
      rw [List.all_map,List.all_eq_true]
      intro n hn
      exact (depthOk_all h5 n hn).1
    | table ls w =>
      obtain ⟨dx,t1,t2,ts,h1,h2,h3,h4,h5,h6,h7⟩:=h
      exact ⟨ad.Table,dx,_,h1,T.cl_Table,T.na_Table_spot_marks,.ref t1,rfl,t1,_,one,other,rfl,.inr h2.sq,flat_marks fun l hl=>(h7 l hl).2,k⟩
theorem ok_Row_init {f:Addr} {fd:FuncData} (F:Fun K "__init__" "Row.__init__" s_Row_init f fd) (T:Txt K mg ad) {f_check_marks:Addr} {fd_check_marks:FuncData} (G_check_marks:FnOk P w K mg base (CX1 P w) 2 f_check_marks fd_check_marks ["marks","most"] (sp_check_marks ad)) {f_Thing_init:Addr} {fd_Thing_init:FuncData} (G_Thing_init:FnOk P w K mg base CX0 1 f_Thing_init fd_Thing_init ["self","spot_marks"] (sp_Thing_init ad)) (D_check_marks:Def K mg "check_marks" s_check_marks ["marks","most"] f_check_marks fd_check_marks) (B_Thing_init:Binds K fd_Thing_init ["self","spot_marks"] []) (CM_Thing_init:ClsM K ad.Thing "__init__" f_Thing_init):FnOk P w K mg base (CX1 P w) 3 f fd ["self","marks"] (sp_Row_init ad):=by
  refine F.okX sc_Row_init (fun vs H Q E h=>?_) (fun cdv A outer s H vs Q E hr h=>?_)
  · obtain ⟨p,dx,v,rfl,_⟩:=h
    rfl
  · obtain ⟨p,dx,v,rfl,hp,t,kg,kb⟩:=h
    obtain ⟨tk_MOST_IN_ROW,h_MOST_IN_ROW⟩:=T.g_MOST_IN_ROW
    refine ⟨_,(pss_cons (ps_expr (pe_call G_check_marks (hr.mono (by decide)) rfl D_check_marks.mg D_check_marks.F.kp D_check_marks.b .nil pass1 (pa_cons (pv 1) (pa_cons (pe_glob (v:=.int 40) rfl h_MOST_IN_ROW ⟨_,rfl⟩) pa_nil))))
      (pss_one (ps_expr (pe_clsm rfl T.c_Thing CM_Thing_init G_Thing_init (hr.mono (by decide)) B_Thing_init .nil pass0 (pa_cons (pv 0) (pa_cons (pv 1) pa_nil)))))),?_⟩
    and_intros
    refine ⟨v,40,rfl,t,fun hg H1 s1=>?_,fun hb H1 s1=>kb hb H1 fun b o _ e=>s1 b o e⟩
    obtain ⟨a,xs,rfl,ha,hl,hm⟩:=hg
    refine ⟨p,dx,a,xs,ad.Row,rfl,.inl rfl,s1 _ _ hp,s1 _ _ ha,fun t1 oo ht hoc hod=>?_⟩
    refine kg a xs rfl ha hl hm _ ⟨dx,t1,upd_same,?_,hm,hl⟩ fun b o hb e=>?_
    · exact ⟨oo,by rw [upd_ne (Ne.symm (ne_of_none (s1 _ _ hp) ht)),upd_same],hoc,hod⟩
    · rw [upd_ne hb,upd_ne (ne_of_none (s1 _ _ e) ht)]
      exact s1 _ _ e
theorem ok_Row_many {f:Addr} {fd:FuncData} (F:Fun K "many" "Row.many" s_Row_many f fd) (T:Txt K mg ad):FnOk P w K mg base CX0 1 f fd ["self"] (sp_Row_many ad):=by
  refine F.ok sc_Row_many (fun vs H Q E h=>?_) (fun cdv A outer s H vs Q E hr h=>?_)
  · obtain ⟨p,xs,rfl,_⟩:=h
    rfl
  · obtain ⟨p,xs,rfl,⟨dx,t,h1,h2,_⟩,k⟩:=h
    refine ⟨_,(pss_one (ps_ret (pe_callB call_lenT rfl T.len PySem.boot_len (pa_cons (pe_fld (pv 0) rfl) pa_nil)))),?_⟩
    and_intros
    exact ⟨ad.Row,dx,_,h1,T.cl_Row,T.na_Row_spot_marks,.ref t,rfl,t,rfl,xs,h2.sq,k⟩
theorem ok_Row_left {f:Addr} {fd:FuncData} (F:Fun K "left" "Row.left" s_Row_left f fd) (T:Txt K mg ad) {f_check_places:Addr} {fd_check_places:FuncData} (G_check_places:FnOk P w K mg base (CX1 P w) 2 f_check_places fd_check_places ["places","many"] (sp_check_places ad)) {f_Row_many:Addr} {fd_Row_many:FuncData} (G_Row_many:FnOk P w K mg base CX0 1 f_Row_many fd_Row_many ["self"] (sp_Row_many ad)) {f_Row_init:Addr} {fd_Row_init:FuncData} (G_Row_init:FnOk P w K mg base (CX1 P w) 3 f_Row_init fd_Row_init ["self","marks"] (sp_Row_init ad)) {f_marks_at:Addr} {fd_marks_at:FuncData} (G_marks_at:FnOk P w K mg base CX0 1 f_marks_at fd_marks_at ["marks","places"] (sp_marks_at K)) (D_check_places:Def K mg "check_places" s_check_places ["places","many"] f_check_places fd_check_places) (D_marks_at:Def K mg "marks_at" s_marks_at ["marks","places"] f_marks_at fd_marks_at) (B_Row_many:Binds K fd_Row_many ["self"] []) (B_Row_init:Binds K fd_Row_init ["self","marks"] []) (ME_Row_many:Meth K ad.Row "many" f_Row_many) (M_Row:Mk K ad.Row f_Row_init):FnOk P w K mg base (CX1 P w) 5 f fd ["self","places"] (sp_Row_left ad):=by
  refine F.okX sc_Row_left (fun vs H Q E h=>?_) (fun cdv A outer s H vs Q E hr h=>?_)
  · obtain ⟨p,v,xs,rfl,_⟩:=h
    rfl
  · obtain ⟨p,v,xs,rfl,hp,t,kg,kb⟩:=h
    refine ⟨_,(pss_cons (ps_expr (pe_call G_check_places (hr.mono (by decide)) rfl D_check_places.mg D_check_places.F.kp D_check_places.b .nil pass1 (pa_cons (pv 1) (pa_cons (pe_meth0 (pv 0) T.cl_Row ME_Row_many G_Row_many (hr.mono (by decide)) B_Row_many .nil pass0) pa_nil))))
      (pss_one (ps_ret (pe_make M_Row G_Row_init (hr.mono (by decide)) rfl T.c_Row B_Row_init .nil pass1 (pa_cons (pe_call G_marks_at (hr.mono (by decide)) rfl D_marks_at.mg D_marks_at.F.kp D_marks_at.b .nil pass0 (pa_cons (pe_fld (pv 0) rfl) (pa_cons (pv 1) pa_nil))) pa_nil))))),?_⟩
    obtain ⟨dx,t1,h1,h2,h3,h4⟩:=id hp
    and_intros
    refine ⟨dx,_,h1,rfl,p,xs,rfl,hp,v,_,rfl,t,fun hg H1 s1=>?_,fun hb H1 s1=>kb hb H1 s1⟩
    obtain ⟨a,ps,rfl,ha,hok⟩:=hg
    have lps:=places_len hok (by omega)
    refine ⟨ad.Row,dx,_,s1 _ _ h1,T.cl_Row,T.na_Row_spot_marks,.ref t1,rfl,?_⟩
    refine ⟨t1,a,xs,ps,rfl,(h2.same s1).sq,s1 _ _ ha,places_all hok,by omega,fun l hl x6 dx6 hx hdx hne=>?_⟩
    have pm:∀ i ∈ ps,markV (xs.getD i.toNat .non) = true:=fun i hi=>by
      obtain ⟨i0,i1⟩:=places_all hok i hi
      have hlt:i.toNat < xs.length:=by omega
      rw [List.getD_eq_getElem?_getD,List.getElem?_eq_getElem hlt,Option.getD_some]
      exact List.all_eq_true.mp h3 _ (List.getElem_mem hlt)
    have am:(ps.map fun i=>xs.getD i.toNat .non).all markV = true:=by
      rw [List.all_eq_true]
      intro x hx
      obtain ⟨i,hi,rfl⟩:=List.mem_map.mp hx
      exact pm i hi
    have lm:(ps.map fun i=>xs.getD i.toNat .non).length ≤ 40:=by rw [List.length_map]; omega
    have s12:=s1.upd (o:=.lst (ps.map fun i=>xs.getD i.toNat .non)) hl
    have fl:(upd H1 l (.lst (ps.map fun i=>xs.getD i.toNat .non))) l = some (.lst (ps.map fun i=>xs.getD i.toNat .non)):=upd_same
    generalize (upd H1 l (.lst (ps.map fun i=>xs.getD i.toNat .non))) = H2 at s12 fl hx hdx ⊢
    have s67:Same H2 (upd (upd H2 dx6 (.own x6)) x6 (.ins ad.Row dx6 [])):=(Same.put hdx).upd (by rw [upd_ne (Ne.symm hne)]; exact hx)
    have hl6:=s67 l _ fl
    refine ⟨x6,dx6,.ref l,rfl,upd_same,thg2_lst hl6 (thg_mark am),fun a' xs' e h hl' hm' H8 hrow sb=>⟨rfl,?_⟩,fun hb=>absurd ⟨l,_,rfl,hl6,lm,am⟩ hb⟩
    cases e
    rw [hl6] at h
    cases h
    have s68:Same H2 H8:=fun b o e=>sb b o (ne_of_none e hx) (s67 b o e)
    exact kg a ps rfl ha hok x6 H8 (s12.trans s68) hrow
theorem ok_Row_form {f:Addr} {fd:FuncData} (F:Fun K "form" "Row.form" s_Row_form f fd) (T:Txt K mg ad):FnOk P w K mg base CX0 1 f fd ["self"] (sp_Row_form ad):=by
  refine F.ok sc_Row_form (fun vs H Q E h=>?_) (fun cdv A outer s H vs Q E hr h=>?_)
  · obtain ⟨p,xs,rfl,_⟩:=h
    rfl
  · obtain ⟨p,xs,rfl,⟨dx,t,h1,h2,_⟩,k⟩:=h
    refine ⟨_,(pss_one (ps_ret (pe_tup (pa_cons pe_str (pa_cons (pe_fld (pv 0) rfl) pa_nil))))),?_⟩
    and_intros
    exact ⟨ad.Row,dx,_,h1,T.cl_Row,T.na_Row_spot_marks,.ref t,rfl,by decide,fun l hl=>k t l h2 hl⟩
theorem ok_Row_is_under {f:Addr} {fd:FuncData} (F:Fun K "is_under" "Row.is_under" s_Row_is_under f fd) (T:Txt K mg ad):FnOk P w K mg base CX0 1 f fd ["self","one","other"] sp_Row_is_under:=by
  refine F.ok sc_Row_is_under (fun vs H Q E h=>?_) (fun cdv A outer s H vs Q E hr h=>?_)
  · obtain ⟨p,a,b,rfl,_⟩:=h
    rfl
  · obtain ⟨p,a,b,rfl,k⟩:=h
    refine ⟨_,(pss_one (ps_ret pe_bl)),?_⟩
    and_intros
    exact k
theorem ok_Row_is_beside {f:Addr} {fd:FuncData} (F:Fun K "is_beside" "Row.is_beside" s_Row_is_beside f fd) (T:Txt K mg ad) {f_stands_right_ahead:Addr} {fd_stands_right_ahead:FuncData} (G_stands_right_ahead:FnOk P w K mg base CX0 1 f_stands_right_ahead fd_stands_right_ahead ["marks","one","other"] sp_stands_right_ahead) (D_stands_right_ahead:Def K mg "stands_right_ahead" s_stands_right_ahead ["marks","one","other"] f_stands_right_ahead fd_stands_right_ahead):FnOk P w K mg base CX0 2 f fd ["self","one","other"] (sp_Row_is_beside ad):=by
  refine F.ok sc_Row_is_beside (fun vs H Q E h=>?_) (fun cdv A outer s H vs Q E hr h=>?_)
  · obtain ⟨p,xs,one,other,rfl,_⟩:=h
    rfl
  · obtain ⟨p,xs,one,other,rfl,⟨dx,t,h1,h2,h3,h4⟩,k⟩:=h
    refine ⟨_,(pss_one (ps_ret (pe_call G_stands_right_ahead (hr.mono (by decide)) rfl D_stands_right_ahead.mg D_stands_right_ahead.F.kp D_stands_right_ahead.b .nil pass0 (pa_cons (pe_fld (pv 0) rfl) (pa_cons (pv 1) (pa_cons (pv 2) pa_nil)))))),?_⟩
    and_intros
    exact ⟨ad.Row,dx,_,h1,T.cl_Row,T.na_Row_spot_marks,.ref t,rfl,t,xs,one,other,rfl,(let ⟨o,e,_⟩:=h2; .inr ⟨o,e⟩),h3,by omega,k⟩
theorem ok_Forest_init {f:Addr} {fd:FuncData} (F:Fun K "__init__" "Forest.__init__" s_Forest_init f fd) (T:Txt K mg ad) {f_check_nodes:Addr} {fd_check_nodes:FuncData} (G_check_nodes:FnOk P w K mg base (CX1 P w) 3 f_check_nodes fd_check_nodes ["nodes"] (sp_check_nodes ad)) {f_Thing_init:Addr} {fd_Thing_init:FuncData} (G_Thing_init:FnOk P w K mg base CX0 1 f_Thing_init fd_Thing_init ["self","spot_marks"] (sp_Thing_init ad)) (D_check_nodes:Def K mg "check_nodes" s_check_nodes ["nodes"] f_check_nodes fd_check_nodes) (B_Thing_init:Binds K fd_Thing_init ["self","spot_marks"] []) (CM_Thing_init:ClsM K ad.Thing "__init__" f_Thing_init):FnOk P w K mg base (CX1 P w) 4 f fd ["self","nodes"] (sp_Forest_init ad):=by
  refine F.okX sc_Forest_init (fun vs H Q E h=>?_) (fun cdv A outer s H vs Q E hr h=>?_)
  · obtain ⟨p,dx,v,rfl,_⟩:=h
    rfl
  · obtain ⟨p,dx,v,rfl,hp,t,kg,kb⟩:=h
    refine ⟨_,(pss_cons (ps_expr (pe_call G_check_nodes (hr.mono (by decide)) rfl D_check_nodes.mg D_check_nodes.F.kp D_check_nodes.b .nil pass1 (pa_cons (pv 1) pa_nil)))
      (pss_cons (ps_expr (pe_clsm rfl T.c_Thing CM_Thing_init G_Thing_init (hr.mono (by decide)) B_Thing_init .nil pass0 (pa_cons (pv 0) (pa_cons (pe_comp (own:=["node"]) (cap:=[]) (ix:=[]) rfl (show CompScope ["self","nodes"] (defScope s_Forest_init) _ ["node"] [] [] from ⟨rfl,by decide +kernel,by decide +kernel,by decide +kernel,by decide +kernel,by decide +kernel,by decide +kernel,rfl,by decide +kernel⟩) (pi_list (pv 1)) (fun C s₀ H₀ ex pn=>⟨pg_name (i:=0) (show (["node"]:List Str).Nodup by decide +kernel) rfl (Or.inl rfl),pifs_nil,(pe_ix (show IxR _ (rIxT K) from ix_tup) (pv 0) pe_int (fun _ _=>rfl))⟩)) pa_nil))))
      (pss_one (ps_fld (pv 0) (pe_callTy call_tupL rfl T.tuple PyProof.Rows.boot_tuple (pa_cons (pv 1) pa_nil)) rfl)))),?_⟩
    and_intros
    refine ⟨v,rfl,t,fun hg H1 s1=>?_,fun hb H1 s1=>kb hb H1 fun b o _ e=>s1 b o e⟩
    obtain ⟨a,xs,ns,rfl,ha,hl,hn,hd⟩:=hg
    and_intros
    refine tcomp_list (a:=a) (xs:=xs) (H1:=H1) (fun R r=>⟨_,rfl,a,rfl,⟨_,SqL.of (s1 _ _ ha)⟩,r⟩) (fun i ys H'=>H' = H1 ∧ ys = (ns.take i).map fun n=>V.str n.1) ⟨rfl,rfl⟩ (fun i ys H' _ ⟨e,_⟩=>e ▸ SqL.of (s1 _ _ ha)) ?_ ?_
    · rintro i x ys H' R hx ⟨rfl,rfl⟩ hR
      obtain ⟨n,en,hx'⟩:=hn.get hx
      obtain ⟨tt,e,h2⟩:=hx'
      subst e
      simp only [tYes]
      and_intros
      refine ⟨_,SqT.of (s1 _ _ h2),_,rfl,?_,hR _ _ ⟨rfl,?_⟩⟩
      · rw [List.length_map,List.length_take]; exact small1000 (by have:=hn.length; omega)
      · rw [List.take_add_one,en,List.map_append]; rfl
    · rintro ys H' ⟨rfl,rfl⟩
      have hlen:=hn.length
      rw [hlen,List.take_length]
      refine ⟨by rw [List.length_map]; exact Nat.le_of_lt (small1000 (by omega)),fun l hl'=>?_⟩
      have s2:=s1.upd (o:=.lst (ns.map fun n=>V.str n.1)) hl'
      refine ⟨p,dx,l,_,ad.Forest,rfl,.inr (.inr rfl),s2 _ _ hp,upd_same,fun t1 oo ht1 hoc hod=>?_⟩
      have s3:=s2.upd (o:=.frz oo (.tup (ns.map fun n=>V.str n.1))) ht1
      have sb:∀ o,SameBut p H (upd (upd (upd H' l (.lst (ns.map fun n=>V.str n.1))) t1 (.frz oo (.tup (ns.map fun n=>V.str n.1)))) p o):=fun o b u hb e=>by rw [upd_ne hb]; exact s3 _ _ e
      have nap:a ≠ p:=ne_of ha hp (fun z=>nomatch z)
      refine ⟨xs,SqL.of (sb _ a _ nap ha),fun t2 ht2=>⟨ad.Forest,dx,[("spot_marks",.ref t1)],?_,T.cl_Forest,T.na_Forest_nodes,by show 1 < 1000; decide,?_⟩⟩
      · rw [upd_ne (ne_of_none upd_same ht2)]; exact upd_same
      · rw [putF2 (by decide +kernel)]
        have n2p:t2 ≠ p:=Ne.symm (ne_of_none upd_same ht2)
        have n1p:t1 ≠ p:=Ne.symm (ne_of_none (s2 _ _ hp) ht1)
        have t1a:∀ o,(upd (upd (upd H' l (.lst (ns.map fun n=>V.str n.1))) t1 (.frz oo (.tup (ns.map fun n=>V.str n.1)))) p o) t1 = some (.frz oo (.tup (ns.map fun n=>V.str n.1))):=fun o=>by rw [upd_ne n1p]; exact upd_same
        have sF:∀ o,SameBut p H (upd (upd (upd (upd (upd H' l (.lst (ns.map fun n=>V.str n.1))) t1 (.frz oo (.tup (ns.map fun n=>V.str n.1)))) p (.ins ad.Forest dx [("spot_marks",.ref t1)])) t2 (.tup xs)) p o):=fun o b u hb e=>by
          rw [upd_ne hb,upd_ne (ne_of_none (sb _ b u hb e) ht2)]
          exact sb _ b u hb e
        refine kg a xs ns rfl ha hl hn hd _ ⟨dx,t1,t2,xs,upd_same,?_,?_,?_⟩ (sF _)
        · exact ⟨oo,by rw [upd_ne n1p,upd_ne (ne_of_none (t1a _) ht2)]; exact t1a _,hoc,hod⟩
        · rw [upd_ne n2p]; exact upd_same
        · exact hn.tups fun b ys e=>sF _ b _ (ne_of e hp (fun z=>nomatch z)) e
theorem ok_Forest_many {f:Addr} {fd:FuncData} (F:Fun K "many" "Forest.many" s_Forest_many f fd) (T:Txt K mg ad):FnOk P w K mg base CX0 1 f fd ["self"] (sp_many ad):=by
  refine F.ok sc_Forest_many (fun vs H Q E h=>?_) (fun cdv A outer s H vs Q E hr h=>?_)
  · obtain ⟨p,ns,rfl,_⟩:=h
    rfl
  · obtain ⟨p,ns,rfl,⟨dx,t1,t2,xs,h1,h2,h3,h4⟩,k⟩:=h
    refine ⟨_,(pss_one (ps_ret (pe_callB call_lenT rfl T.len PySem.boot_len (pa_cons (pe_fld (pv 0) rfl) pa_nil)))),?_⟩
    and_intros
    refine ⟨ad.Forest,dx,_,h1,T.cl_Forest,T.na_Forest_nodes,.ref t2,lookup2 (by decide +kernel),t2,rfl,_,SqT.of h3,?_⟩
    rw [h4.length]
    exact k
theorem ok_Forest_left {f:Addr} {fd:FuncData} (F:Fun K "left" "Forest.left" s_Forest_left f fd) (T:Txt K mg ad) {f_check_places:Addr} {fd_check_places:FuncData} (G_check_places:FnOk P w K mg base (CX1 P w) 2 f_check_places fd_check_places ["places","many"] (sp_check_places ad)) {f_Forest_many:Addr} {fd_Forest_many:FuncData} (G_Forest_many:FnOk P w K mg base CX0 1 f_Forest_many fd_Forest_many ["self"] (sp_many ad)) {f_Forest_init:Addr} {fd_Forest_init:FuncData} (G_Forest_init:FnOk P w K mg base (CX1 P w) 4 f_Forest_init fd_Forest_init ["self","nodes"] (sp_Forest_init ad)) (D_check_places:Def K mg "check_places" s_check_places ["places","many"] f_check_places fd_check_places) (B_Forest_many:Binds K fd_Forest_many ["self"] []) (B_Forest_init:Binds K fd_Forest_init ["self","nodes"] []) (ME_Forest_many:Meth K ad.Forest "many" f_Forest_many) (M_Forest:Mk K ad.Forest f_Forest_init):FnOk P w K mg base (CX1 P w) 6 f fd ["self","places"] (sp_Forest_left ad):=by
  refine F.okX sc_Forest_left (fun vs H Q E h=>?_) (fun cdv A outer s H vs Q E hr h=>?_)
  · obtain ⟨p,v,ns,rfl,_⟩:=h
    rfl
  · obtain ⟨p,v,ns,rfl,hp,hd,hl,t,kg,kb⟩:=h
    have hu:=hr.units
    refine ⟨_,(pss_cons (ps_expr (pe_call G_check_places (hr.mono (by decide)) rfl D_check_places.mg D_check_places.F.kp D_check_places.b .nil pass1 (pa_cons (pv 1) (pa_cons (pe_meth0 (pv 0) T.cl_Forest ME_Forest_many G_Forest_many (hr.mono (by decide)) B_Forest_many .nil pass0) pa_nil))))
      (pss_cons (ps_set (i:=2) sc_Forest_left.nd rfl (Or.inl rfl) (pe_callTy (call_dictP rfl) rfl T.dict PyProof.Rows.boot_dict (pa_cons (pe_comp (own:=["place"]) (cap:=[]) (ix:=[]) rfl (show CompScope ["self","places","kept","rest","above","place","node","depth"] (defScope s_Forest_left) _ ["place"] [] [] from ⟨rfl,by decide +kernel,by decide +kernel,by decide +kernel,by decide +kernel,by decide +kernel,by decide +kernel,rfl,by decide +kernel⟩) (pi_list (pv 1)) (fun C s₀ H₀ ex pn=>⟨pg_name (i:=0) (show (["place"]:List Str).Nodup by decide +kernel) rfl (Or.inl rfl),pifs_nil,(pe_tup (pa_cons (pv 0) (pa_cons pe_bl pa_nil)))⟩)) pa_nil)))
      (pss_cons (ps_set (i:=3) sc_Forest_left.nd rfl (Or.inl rfl) (pe_lst pa_nil))
      (pss_cons (ps_set (i:=4) sc_Forest_left.nd rfl (Or.inl rfl) (pe_lst (pa_cons pe_int pa_nil)))
      (pss_cons (ps_for PassesOwn.leaving rfl (pi_enumT rfl T.enumerate (pa_cons (pe_fld (pv 0) rfl) pa_nil)) (pg_tup (n:=2) rfl (pgs_cons (pg_name (i:=5) sc_Forest_left.nd rfl (Or.inl rfl)) (pgs_cons (pg_name (i:=6) sc_Forest_left.nd rfl (Or.inl rfl)) pgs_nil)))
      (pss_cons (ps_set (i:=4) sc_Forest_left.nd rfl (Or.inl rfl) (pe_slice sl_list (pv 4) po_none (po_some (pe_op op_add (pe_ix ix_tup (pv 6) pe_int (fun _ _=>rfl)) pe_int))))
      (pss_cons (ps_set (i:=7) sc_Forest_left.nd rfl (Or.inl rfl) (pe_ix ix_list (pv 4) (pe_un un_neg pe_int) (fun _ _=>rfl)))
      (pss_one (ps_if (pt_cmp (pc_din (hu1 hu) (pv 5) (pv 2)))
      (pss_cons (ps_expr (pe_bm PySem.F.plainAttrs_list PySem.F.slot_list_append PySem.F.type_list_append mt_append (pv 3) (pa_cons (pe_tup (pa_cons (pe_ix ix_tup (pv 6) pe_int (fun _ _=>rfl)) (pa_cons (pv 7) pa_nil))) pa_nil)))
      (pss_one (ps_expr (pe_bm PySem.F.plainAttrs_list PySem.F.slot_list_append PySem.F.type_list_append mt_append (pv 4) (pa_cons (pe_op op_add (pv 7) pe_int) pa_nil)))))
      (pss_one (ps_expr (pe_bm PySem.F.plainAttrs_list PySem.F.slot_list_append PySem.F.type_list_append mt_append (pv 4) (pa_cons (pv 7) pa_nil)))))))))
      (pss_one (ps_ret (pe_make M_Forest G_Forest_init (hr.mono (by decide)) rfl T.c_Forest B_Forest_init .nil pass1 (pa_cons (pv 3) pa_nil))))))))),?_⟩
    obtain ⟨dx,t1,t2,xs,h1,h2,h3,h4⟩:=id hp
    refine tseq_open fun B hB=>?_
    and_intros
    refine ⟨dx,_,h1,lookup_no (by decide +kernel) (by decide +kernel),p,ns,rfl,hp,v,_,rfl,t,fun hg H1 s1=>?_,fun hb H1 s1=>kb hb H1 s1⟩
    obtain ⟨a,ps,rfl,ha,hok⟩:=hg
    have lps:=places_len hok (by omega)
    subst hB
    refine tseq_open fun B hB=>?_
    and_intros
    refine tcomp_list (a:=a) (xs:=ps.map V.int) (H1:=H1) (fun R rr=>⟨_,rfl,a,rfl,⟨_,SqL.of (s1 _ _ ha)⟩,rr⟩) (fun i ys H'=>Same H1 H' ∧ RowsAt .tup H' ys ((ps.take i).map fun q=>[V.int q,V.bl true])) ⟨Same.refl _,trivial⟩ (fun i ys H' _ ⟨e,_⟩=>SqL.of (e _ _ (s1 _ _ ha))) ?_ ?_
    · rintro i x ys H' R hx ⟨s2,hy⟩ hR
      rw [List.getElem?_map] at hx
      obtain ⟨q,eq,rfl⟩:=Option.map_eq_some_iff.mp hx
      simp only [tYes]
      and_intros
      refine ⟨by decide,fun u hu'=>⟨?_,hR _ _ ⟨s2.upd hu',?_⟩⟩⟩
      · rw [hy.length,List.length_map,List.length_take]; exact small1000 (by omega)
      · rw [List.take_add_one,eq,List.map_append]
        exact (hy.same (Same.put hu')).append ⟨⟨u,rfl,upd_same⟩,trivial⟩
    · rintro ys H' ⟨s2,hy⟩
      rw [show (ps.map V.int).length = ps.length from List.length_map _,List.take_length] at hy
      have hyl:ys.length = ps.length:=by rw [hy.length,List.length_map]
      refine ⟨Nat.le_of_lt (small1000 (by omega)),fun D hD=>?_⟩
      have s3:=s1.trans (s2.upd (o:=.lst ys) hD)
      have hy3:=hy.same (Same.put (o:=.lst ys) hD)
      have fD:(upd H' D (.lst ys)) D = some (.lst ys):=upd_same
      generalize (upd H' D (.lst ys)) = H3 at s3 hy3 fD ⊢
      refine ⟨D,rfl,ys,SqL.of fD,ps.map (fun q=>((Sum.inl q:Key),V.bl true)),by rw [List.length_map,hyl],by rw [List.length_map]; omega,fun j y pr e1 e2=>?_,fun d hd1=>?_⟩
      · obtain ⟨n,e3,u,e4,h5⟩:=hy3.get e1
        rw [List.getElem?_map] at e2 e3
        obtain ⟨q,eq,rfl⟩:=Option.map_eq_some_iff.mp e2
        rw [eq] at e3
        cases e3
        exact ⟨u,e4,h5⟩
      have hin:∀ j:Int,(valV ((ps.map fun q=>((Sum.inl q:Key),V.bl true)).foldl (fun a p=>putK a p.1 p.2) []) (Sum.inl j)).isSome = decide (j ∈ ps):=fun j=>by rw [fold_val]; simp [valV]
      generalize ((ps.map fun q=>((Sum.inl q:Key),V.bl true)).foldl (fun a p=>putK a p.1 p.2) []) = kvs at hin ⊢
      have s4:=s3.upd (o:=.dK kvs) hd1
      have fd4:(upd H3 d (.dK kvs)) d = some (.dK kvs):=upd_same
      generalize (upd H3 d (.dK kvs)) = H4 at s4 fd4 ⊢
      subst hB
      refine tseq_open fun B hB=>?_
      and_intros
      refine ⟨by decide,fun r1 hr1=>?_⟩
      subst hB
      refine tseq_open fun B hB=>?_
      and_intros
      refine ⟨by decide,fun a1 ha1=>?_⟩
      subst hB
      refine tseq_open fun B hB=>?_
      and_intros
      have nr:a1 ≠ r1:=fun z=>by rw [z,upd_same] at ha1; cases ha1
      have ha0:H4 a1 = none:=by rw [upd_ne nr] at ha1; exact ha1
      have s40:Same H4 (upd (upd H4 r1 (.lst [])) a1 (.lst [.int 0])):=(Same.put hr1).upd ha1
      have f1:(upd (upd H4 r1 (.lst [])) a1 (.lst [.int 0])) r1 = some (.lst []):=by rw [upd_ne (Ne.symm nr)]; exact upd_same
      have f2:(upd (upd H4 r1 (.lst [])) a1 (.lst [.int 0])) a1 = some (.lst [.int 0]):=upd_same
      generalize (upd (upd H4 r1 (.lst [])) a1 (.lst [.int 0])) = H5 at s40 f1 f2 ⊢
      have s5:=s4.trans s40
      refine ⟨_,rfl,p,ad.Forest,dx,_,.ref t2,rfl,s5 _ _ h1,T.cl_Forest,T.na_Forest_nodes,lookup2 (by decide +kernel),t2,rfl,⟨_,SqT.of (s5 _ _ h3)⟩,for_enumT (xs:=xs) (fun i σ H'=>Same H4 H' ∧ ∃ (rs:List V) (ab:Addr) (o5 o6 o7:Option V),H' r1 = some (.lst rs) ∧ NodesAt H' rs ((below ps i).map (nodeL ns ps)) ∧ H' ab = some (.lst ((cntL ps (way (ns.take i))).map V.int)) ∧ H4 ab = none ∧ ab ≠ r1 ∧ StIs σ [some (.ref p),some (.ref a),some (.ref d),some (.ref r1),some (.ref ab),o5,o6,o7]) ⟨s40,[],a1,none,none,none,f1,?_,f2,ha0,nr,StIs.rfl⟩ ?_ ?_ ?_⟩
      · rw [below_none (i:=0) hok (by omega)]; trivial
      · rintro i σ H' _ ⟨s6,_⟩
        exact SqT.of (s6 _ _ (s4 _ _ h3))
      · rintro i x σ H' T' hx ⟨s6,rs,ab,o5,o6,o7,hr,hn6,hab,hab0,nab,rfl⟩ hT
        obtain ⟨n,en,tt,ex,ht⟩:=h4.get hx
        subst ex
        obtain ⟨hm,d0,d12⟩:=depth12 hd en
        have hi:i < ns.length:=(List.getElem?_eq_some_iff.mp en).1
        have s7:=Same.put (o:=.tup [.int i,.ref tt]) hT
        have fT:(upd H' T' (.tup [.int i,.ref tt])) T' = some (.tup [.int i,.ref tt]):=upd_same
        generalize (upd H' T' (.tup [.int i,.ref tt])) = H7 at s7 fT ⊢
        refine ⟨T',_,rfl,SqT.of fT,rfl,?_⟩
        and_intros
        have eC:cutV ((cntL ps (way (ns.take i))).map V.int) none (some (n.2 + 1)) = (cntL ps ((way (ns.take i)).take n.2.toNat)).map V.int:=by
          rw [cut_to (n:=n.2.toNat + 1) (by omega),← List.map_take,cntL_take]
        have s47:=s6.trans s7
        refine ⟨_,SqT.of (s47 _ _ (s4 _ _ ht)),_,rfl,n.2,rfl,_,SqL.of (s7 _ _ hab),fun a2 ha2=>?_⟩
        rw [eC]
        have eW:=way_take en
        have eN:nodeL ns ps (i:Int) = (n.1,((kept ps ((way (ns.take i)).take n.2.toNat)).length:Int)):=by
          unfold nodeL
          rw [Int.toNat_natCast,anc_of en,List.getD_eq_getElem?_getD,en]
          rfl
        have eS:=cntL_snoc ps ((way (ns.take i)).take n.2.toNat) i
        rw [← eW] at eS
        have lW:((way (ns.take i)).take n.2.toNat).length ≤ i:=by rw [List.length_take]; have:=way_len (ns:=ns) i (by omega); omega
        generalize ((way (ns.take i)).take n.2.toNat) = Wd at eN eS lW ⊢
        have eL:=cntL_at ps Wd
        have lC:((cntL ps Wd).map V.int).length < sizeLine:=by rw [List.length_map,cntL_len]; exact small1000 (by omega)
        have lR:rs.length < sizeLine:=by
          have e1:=hn6.length
          have e2:(below ps i).length ≤ ps.length:=List.length_filter_le ..
          rw [List.length_map] at e1
          exact small1000 (by omega)
        generalize hcc:((kept ps Wd).length:Int) = cc at eN eS eL ⊢
        have na2:r1 ≠ a2:=ne_of_none (s7 _ _ hr) ha2
        have h40:H4 a2 = none:=Same.none s47 ha2
        have s8:=Same.put (o:=.lst ((cntL ps Wd).map V.int)) ha2
        have f8:(upd H7 a2 (.lst ((cntL ps Wd).map V.int))) a2 = some (.lst ((cntL ps Wd).map V.int)):=upd_same
        generalize (upd H7 a2 (.lst ((cntL ps Wd).map V.int))) = H8 at s8 f8 ⊢
        have s48:=s47.trans s8
        refine ⟨_,SqL.of f8,_,eL,_,(show DGet H8 d (V.int (i:Int)) _ from DGet.k (k:=Sum.inl (i:Int)) (s48 _ _ fd4)),?_⟩
        rw [hin]
        by_cases hk:(i:Int) ∈ ps
        · rw [if_pos (decide_eq_true hk)]
          rw [if_pos hk] at eS
          refine ⟨.inl ⟨rfl,_,SqL.of (s8 _ _ (s7 _ _ hr))⟩,_,SqT.of (s48 _ _ (s4 _ _ ht)),_,rfl,by decide,fun t3 ht3=>?_⟩
          have s9:=Same.put (o:=.tup [.str n.1,.int cc]) ht3
          have f9:(upd H8 t3 (.tup [.str n.1,.int cc])) t3 = some (.tup [.str n.1,.int cc]):=upd_same
          generalize (upd H8 t3 (.tup [.str n.1,.int cc])) = H9 at s9 f9 ⊢
          have g2:=s9 _ _ f8
          have gr:=s9 _ _ (s8 _ _ (s7 _ _ hr))
          refine ⟨rs,gr,lR,.inl ⟨rfl,_,SqL.of (by rw [upd_ne (Ne.symm na2)]; exact g2)⟩,cc,rfl,(cntL ps Wd).map V.int,by rw [upd_ne (Ne.symm na2)]; exact g2,lC,fun b o e=>?_,rs ++ [.ref t3],by rw [upd_ne na2]; exact upd_same,?_,a2,?_,h40,Ne.symm na2,_,_,_,StIs.rfl⟩
          · rw [upd_ne (ne_of_none e h40),upd_ne (ne_of_none e hr1)]
            exact s9 _ _ (s48 _ _ e)
          · have up:∀ b ys,H9 b = some (.tup ys) → (upd (upd H9 r1 (.lst (rs ++ [.ref t3]))) a2 (.lst ((cntL ps Wd).map V.int ++ [.int (cc + 1)]))) b = some (.tup ys):=fun b ys e=>by
              rw [upd_ne (ne_of e g2 (fun z=>nomatch z)),upd_ne (ne_of e gr (fun z=>nomatch z))]
              exact e
            rw [below_succ hok,if_pos hk,List.map_append]
            refine NodesAt.append (hn6.tups fun b ys e=>up b ys (s9 _ _ (s8 _ _ (s7 _ _ e)))) ⟨⟨t3,rfl,?_⟩,trivial⟩
            rw [eN]
            exact up _ _ f9
          · rw [eS,List.map_append]
            exact upd_same
        · rw [if_neg (by simp [hk])]
          rw [if_neg hk,Int.add_zero] at eS
          refine ⟨.inl ⟨rfl,_,SqL.of f8⟩,_,f8,lC,fun b o e=>?_,rs,by rw [upd_ne na2]; exact s8 _ _ (s7 _ _ hr),?_,a2,?_,h40,Ne.symm na2,_,_,_,StIs.rfl⟩
          · rw [upd_ne (ne_of_none e h40)]
            exact s48 _ _ e
          · rw [below_succ hok,if_neg hk,List.append_nil]
            refine hn6.tups fun b ys e=>?_
            rw [upd_ne (ne_of (s8 _ _ (s7 _ _ e)) f8 (fun z=>nomatch z))]
            exact s8 _ _ (s7 _ _ e)
          · rw [eS,List.map_append]
            exact upd_same
      · rintro σ H' ⟨s6,rs,ab,o5,o6,o7,hr,hn6,hab,hab0,nab,rfl⟩
        have ex:xs.length = ns.length:=h4.length
        rw [ex,below_all hok] at hn6
        have s46:=s4.trans s6
        have hLl:(leftN ns ps).length = ps.length:=List.length_map _
        have hlN:rs.length ≤ 40:=by
          have:=hn6.length
          rw [List.length_map] at this
          omega
        have hdN:=left_ok hd hok
        have n8:∀ n ∈ leftN ns ps,n.1.length ≤ 1000:=fun n h=>by have:=(mark_all (depthOk_all hdN n h).1).2.1; omega
        dsimp only
        subst hB
        and_intros
        intro x6 dx6 hx hdx hne
        have s67:Same H' (upd (upd H' dx6 (.own x6)) x6 (.ins ad.Forest dx6 [])):=(Same.put hdx).upd (by rw [upd_ne (Ne.symm hne)]; exact hx)
        have hr7:=s67 _ _ hr
        have hn7:NodesAt _ rs (leftN ns ps):=hn6.same s67
        refine ⟨x6,dx6,.ref r1,rfl,upd_same,thg4_lst hr7 (hn7.thg3 n8),fun a' xs' ns' e h hl' hm' hd' H8 hfor sb=>⟨rfl,?_⟩,fun hb=>absurd ⟨r1,_,_,rfl,hr7,hlN,hn7,hdN⟩ hb⟩
        cases e
        rw [hr7] at h
        cases h
        have:=hm'.uniq hn7
        subst this
        have s68:Same H' H8:=fun b o e=>sb b o (ne_of_none e hx) (s67 b o e)
        exact kg a ps rfl ha hok x6 H8 (s46.trans s68) hfor
theorem ok_Forest_form {f:Addr} {fd:FuncData} (F:Fun K "form" "Forest.form" s_Forest_form f fd) (T:Txt K mg ad):FnOk P w K mg base CX0 1 f fd ["self"] (sp_form ad):=by
  refine F.ok sc_Forest_form (fun vs H Q E h=>?_) (fun cdv A outer s H vs Q E hr h=>?_)
  · obtain ⟨p,ns,rfl,_⟩:=h
    rfl
  · obtain ⟨p,ns,rfl,⟨dx,t1,t2,xs,h1,h2,h3,h4⟩,k⟩:=h
    refine ⟨_,(pss_one (ps_ret (pe_tup (pa_cons pe_str (pa_cons (pe_fld (pv 0) rfl) pa_nil))))),?_⟩
    and_intros
    refine ⟨ad.Forest,dx,_,h1,T.cl_Forest,T.na_Forest_nodes,.ref t2,lookup2 (by decide +kernel),by decide,fun l hl=>k t2 xs l h3 h4 hl⟩
theorem ok_Forest_standing {f:Addr} {fd:FuncData} (F:Fun K "standing" "Forest.standing" s_Forest_standing f fd) (T:Txt K mg ad) {f_places_of:Addr} {fd_places_of:FuncData} (G_places_of:FnOk P w K mg base CX0 1 f_places_of fd_places_of ["marks","mark"] (sp_places_of K)) (D_places_of:Def K mg "places_of" s_places_of ["marks","mark"] f_places_of fd_places_of):FnOk P w K mg base CX0 2 f fd ["self","mark"] (sp_Forest_standing ad):=by
  refine F.ok sc_Forest_standing (fun vs H Q E h=>?_) (fun cdv A outer s H vs Q E hr h=>?_)
  · obtain ⟨p,ns,m,rfl,_⟩:=h
    rfl
  · obtain ⟨p,ns,m,rfl,⟨⟨dx,t1,t2,xs,h1,h2,h3,h4⟩,h5,h6⟩,k⟩:=h
    refine ⟨_,(pss_one (ps_ret (pe_call G_places_of (hr.mono (by decide)) rfl D_places_of.mg D_places_of.F.kp D_places_of.b .nil pass0 (pa_cons (pe_fld (pv 0) rfl) (pa_cons (pv 1) pa_nil))))),?_⟩
    and_intros
    refine ⟨ad.Forest,dx,_,h1,T.cl_Forest,T.na_Forest_spot_marks,.ref t1,rfl,t1,_,m,rfl,h2.sq,?_,by rw [List.length_map]; omega,k⟩
    rw [List.all_map,List.all_eq_true]
    intro n hn
    exact (depthOk_all h5 n hn).1
theorem ok_Forest_hanging {f:Addr} {fd:FuncData} (F:Fun K "hanging" "Forest.hanging" s_Forest_hanging f fd) (T:Txt K mg ad) {f_Forest_many:Addr} {fd_Forest_many:FuncData} (G_Forest_many:FnOk P w K mg base CX0 1 f_Forest_many fd_Forest_many ["self"] (sp_many ad)) (B_Forest_many:Binds K fd_Forest_many ["self"] []) (ME_Forest_many:Meth K ad.Forest "many" f_Forest_many):FnOk P w K mg base CX0 2 f fd ["self","place"] (sp_Forest_hanging ad):=by
  refine F.ok sc_Forest_hanging (fun vs H Q E h=>?_) (fun cdv A outer s H vs Q E hr h=>?_)
  · obtain ⟨p,ns,k0,rfl,_⟩:=h
    rfl
  · obtain ⟨p,ns,k0,rfl,ho,hk,k⟩:=h
    refine ⟨_,(pss_cons (ps_set (i:=2) sc_Forest_hanging.nd rfl (Or.inl rfl) (pe_op op_add (pv 1) pe_int))
      (pss_cons (ps_while PassesOwn.never (PW.pt (pw_and (pt_cmpR op_lt (pv 2) (pe_meth0 (pv 0) T.cl_Forest ME_Forest_many G_Forest_many (hr.mono (by decide)) B_Forest_many .nil pass0) (nomark _)) (pw_and1 (pt_cmpR op_gt (pe_ix ix_tup (pe_ix ix_tup (pe_fld (pv 0) rfl) (pv 2) (fun _ _=>rfl)) pe_int (fun _ _=>rfl)) (pe_ix ix_tup (pe_ix ix_tup (pe_fld (pv 0) rfl) (pv 1) (fun _ _=>rfl)) pe_int (fun _ _=>rfl)) (nomark _)))))
      (pss_one (ps_aug (i:=2) sc_Forest_hanging.nd rfl (Or.inl rfl) pe_int ip_add)))
      (pss_one (ps_ret (pe_callTy (call_listR rfl) rfl T.list PyProof.Rows.boot_list (pa_cons (pe_callTy call_rangeV2 rfl T.range PyProof.Rows.boot_range (pa_cons (pv 1) (pa_cons (pv 2) pa_nil))) pa_nil)))))),?_⟩
    obtain ⟨hp,hd,hl⟩:=id ho
    obtain ⟨dx,t1,t2,xs,h1,h2,h3,h4⟩:=id hp
    have hlen:=h4.length
    refine tseq_open fun B hB=>?_
    and_intros
    subst hB
    refine tseq_open fun B hB=>?_
    and_intros
    have hkn:ns[k0]? = some ns[k0]:=List.getElem?_eq_getElem hk
    have eD:(ns.getD k0 ("",0)).2 = ns[k0].2:=by rw [List.getD_eq_getElem?_getD,hkn]; rfl
    have tl:=tail_le ns k0
    obtain ⟨n0,en0,t0,ex0,ht0⟩:=h4.get (List.getElem?_eq_getElem (by omega:k0 < xs.length))
    have e0:atI xs (k0:Int) = some (.ref t0):=by rw [← ex0]; exact atI_nat (List.getElem?_eq_getElem (by omega))
    rw [hkn] at en0
    cases en0
    refine ⟨fun m σ H'=>H' = H ∧ ∃ j:Nat,j + m = tailN ns k0 ∧ StIs σ [some (.ref p),some (.int (k0:Nat)),some (.int ((k0:Int) + 1 + (j:Int)))],⟨tailN ns k0,rfl,0,by omega,by rw [show (k0:Int) + 1 + ((0:Nat):Int) = (k0:Int) + 1 by omega]; exact StIs.rfl⟩,?_⟩
    rintro m σ H' ⟨rfl,j,hj,rfl⟩
    and_intros
    refine ⟨dx,_,h1,lookup_no (by decide +kernel) (by decide +kernel),p,ns,rfl,hp,?_⟩
    have fin:j = tailN ns k0 → B ({ nx:=fun _ H'=>Q .non H',rt:=Q }:Ends) [some (.ref p),some (.int (k0:Nat)),some (.int ((k0:Int) + 1 + (j:Int)))] H':=fun e=>by
      subst hB
      and_intros
      intro r hr'
      refine ⟨k0,(k0:Int) + 1 + (j:Int),upd_same,by omega,by omega,by omega,by omega,by omega,fun l hl'=>?_⟩
      rw [show ((k0:Int) + 1 + (j:Int) - (k0:Int)).toNat = tailN ns k0 + 1 by omega]
      exact k l _ (Same.none (Same.put hr') hl') ((Same.put hr').upd hl') upd_same
    have nd:∃ x,List.lookup (Str.ofString "nodes") [(Str.ofString "spot_marks",V.ref t1),(Str.ofString "nodes",V.ref t2)] = some x ∧ x = .ref t2:=⟨.ref t2,lookup2 (by decide +kernel),rfl⟩
    refine ⟨_,rfl,ite2 (fun hlt=>?_) fun hge=>fin (by omega)⟩
    have hlt':k0 + 1 + j < ns.length:=by omega
    obtain ⟨n1,en1,t',ex1,ht1⟩:=h4.get (List.getElem?_eq_getElem (by omega:k0 + 1 + j < xs.length))
    have e1:atI xs ((k0:Int) + 1 + (j:Int)) = some (.ref t'):=by
      rw [show (k0:Int) + 1 + (j:Int) = ((k0 + 1 + j:Nat):Int) by omega,← ex1]
      exact atI_nat (List.getElem?_eq_getElem (by omega))
    refine ⟨ad.Forest,dx,_,h1,T.cl_Forest,T.na_Forest_nodes,.ref t2,lookup2 (by decide +kernel),t2,rfl,xs,SqT.of h3,_,e1,t',rfl,_,SqT.of ht1,_,rfl,ad.Forest,dx,_,h1,T.cl_Forest,T.na_Forest_nodes,.ref t2,lookup2 (by decide +kernel),t2,rfl,xs,SqT.of h3,_,e0,t0,rfl,_,SqT.of ht0,_,rfl,n1.2,rfl,ns[k0].2,rfl,ite2 (fun hd1=>?_) fun hd1=>fin ?_⟩
    · have hjt:j < tailN ns k0:=by
        rcases Nat.lt_or_ge j (tailN ns k0) with h | h
        · exact h
        · have:j = tailN ns k0:=by omega
          rw [this] at en1
          exact absurd (by rw [eD]; exact hd1) (tail_stop en1)
      refine ⟨fun σ' H1=>H1 = H' ∧ StIs σ' [some (.ref p),some (.int (k0:Nat)),some (.int ((k0:Int) + 1 + ((j + 1:Nat):Int)))],fun σ' H1 ⟨e2,e3⟩=>⟨m - 1,by omega,e2,j + 1,by omega,e3⟩,?_⟩
      and_intros
      rw [show (k0:Int) + 1 + (j:Int) + 1 = (k0:Int) + 1 + ((j + 1:Nat):Int) by omega]
      exact StIs.rfl
    · rcases Nat.lt_or_ge j (tailN ns k0) with h | h
      · obtain ⟨n2,en2,h2'⟩:=tail_lt h
        rw [en1] at en2
        cases en2
        rw [eD] at h2'
        exact absurd h2' hd1
      · omega
theorem ok_Forest_is_under {f:Addr} {fd:FuncData} (F:Fun K "is_under" "Forest.is_under" s_Forest_is_under f fd) (T:Txt K mg ad) {f_Forest_standing:Addr} {fd_Forest_standing:FuncData} (G_Forest_standing:FnOk P w K mg base CX0 2 f_Forest_standing fd_Forest_standing ["self","mark"] (sp_Forest_standing ad)) {f_marks_at:Addr} {fd_marks_at:FuncData} (G_marks_at:FnOk P w K mg base CX0 1 f_marks_at fd_marks_at ["marks","places"] (sp_marks_at K)) {f_Forest_hanging:Addr} {fd_Forest_hanging:FuncData} (G_Forest_hanging:FnOk P w K mg base CX0 2 f_Forest_hanging fd_Forest_hanging ["self","place"] (sp_Forest_hanging ad)) (D_marks_at:Def K mg "marks_at" s_marks_at ["marks","places"] f_marks_at fd_marks_at) (B_Forest_standing:Binds K fd_Forest_standing ["self","mark"] []) (B_Forest_hanging:Binds K fd_Forest_hanging ["self","place"] []) (ME_Forest_standing:Meth K ad.Forest "standing" f_Forest_standing) (ME_Forest_hanging:Meth K ad.Forest "hanging" f_Forest_hanging):FnOk P w K mg base CX0 3 f fd ["self","one","other"] (sp_Forest_is_under ad):=by
  refine F.ok sc_Forest_is_under (fun vs H Q E h=>?_) (fun cdv A outer s H vs Q E hr h=>?_)
  · obtain ⟨p,ns,one,other,rfl,_⟩:=h
    rfl
  · obtain ⟨p,ns,one,other,rfl,ho,k⟩:=h
    refine ⟨_,(pss_cons (ps_for PassesOwn.never rfl (pi_list (pe_meth (pv 0) T.cl_Forest ME_Forest_standing G_Forest_standing (hr.mono (by decide)) B_Forest_standing .nil pass0 (pa_cons (pv 1) pa_nil))) (pg_name (i:=3) sc_Forest_is_under.nd rfl (Or.inl rfl))
      (pss_one (ps_if (pt_cmpR op_in_seq (pv 2) (pe_call G_marks_at (hr.mono (by decide)) rfl D_marks_at.mg D_marks_at.F.kp D_marks_at.b .nil pass0 (pa_cons (pe_fld (pv 0) rfl) (pa_cons (pe_slice sl_list (pe_meth (pv 0) T.cl_Forest ME_Forest_hanging G_Forest_hanging (hr.mono (by decide)) B_Forest_hanging .nil pass0 (pa_cons (pv 3) pa_nil)) (po_some pe_int) po_none) pa_nil))) rfl)
      (pss_one (ps_ret pe_bl))
      pss_nil)))
      (pss_one (ps_ret pe_bl))),?_⟩
    obtain ⟨hp,hd,hl⟩:=id ho
    obtain ⟨dx,t1,t2,xs,h1,h2,h3,h4⟩:=id hp
    have hlen:=h4.length
    refine tseq_open fun B hB=>?_
    refine (show tFor _ _ _ _ _ _ from ?_)
    unfold tFor
    refine split_it (fun J H1=>∃ l,Same H H1 ∧ H1 l = some (.lst ((idxs (isM one) 0 (namesN ns)).map V.int)) ∧ J = Itl K l) (fun G' hG=>?_) ?_
    · and_intros
      exact ⟨dx,_,h1,lookup_no (by decide +kernel) (by decide +kernel),p,ns,one,rfl,ho,fun l H1 _ s1 h=>⟨l,rfl,⟨_,SqL.of h⟩,hG _ _ ⟨l,s1,h,rfl⟩⟩⟩
    rintro _ H1 ⟨l,s1,hl1,rfl⟩
    refine for_list (xs:=(idxs (isM one) 0 (namesN ns)).map V.int) (fun i σ H'=>Same H1 H' ∧ (((idxs (isM one) 0 (namesN ns)).take i).any fun p=>inV (.str other) (((hangN ns p.toNat).drop 1).map fun q=>(namesN ns).getD q.toNat .non)) = false ∧ ∃ o3:Option V,StIs σ [some (.ref p),some (.str one),some (.str other),o3]) ⟨Same.refl _,rfl,none,StIs.rfl⟩ (fun i σ H' _ ⟨e,_⟩=>SqL.of (e _ _ hl1)) ?_ ?_
    · rintro i x σ H' hx ⟨s2,hf,o3,rfl⟩
      obtain ⟨q,hq,rfl⟩:=Option.map_eq_some_iff.mp (List.getElem?_map .. ▸ hx)
      obtain ⟨n,y,eq1,hx1,_⟩:=mem_idxs.mp (List.mem_of_getElem? hq)
      rw [Nat.zero_add] at eq1
      subst eq1
      have hn:n < ns.length:=by
        have:=(List.getElem?_eq_some_iff.mp hx1).1
        unfold namesN at this
        rwa [List.length_map] at this
      have tl:=tail_le ns n
      have s12:=s1.trans s2
      and_intros
      refine ⟨ad.Forest,dx,_,s12 _ _ h1,T.cl_Forest,T.na_Forest_spot_marks,.ref t1,rfl,dx,_,s12 _ _ h1,lookup_no (by decide +kernel) (by decide +kernel),p,ns,n,rfl,ho.same s12,hn,fun l3 H3 _ s3 hl3=>⟨l3,rfl,_,SqL.of hl3,fun p4 hp4=>?_⟩⟩
      rw [cut_from (n:=1) (i:=1) rfl,← List.map_drop]
      refine ⟨t1,p4,namesN ns,(hangN ns n).drop 1,rfl,SqT.same ((s12.trans s3).upd hp4) h2.sq,upd_same,fun q hq=>?_,by rw [List.length_drop,hang_len]; omega,fun l5 hl5=>?_⟩
      · obtain ⟨i,rfl,_,h⟩:=hang_mem hn (List.mem_of_mem_drop hq)
        unfold namesN
        rw [List.length_map]
        omega
      · and_intros
        refine ⟨l5,_,rfl,.inl (SqL.of upd_same),rfl,?_,_,rfl,?_⟩
        · rw [List.all_map,List.all_eq_true]
          intro q hq
          obtain ⟨i,rfl,_,h⟩:=hang_mem hn (List.mem_of_mem_drop hq)
          show flatV ((namesN ns).getD _ .non) = true
          rw [Int.toNat_natCast,namesN_get h]
          rfl
        · refine ite2 (fun ht=>?_) fun ht=>⟨((s2.trans s3).upd hp4).upd hl5,any_take_more hq hf (Bool.eq_false_iff.mpr (by rw [if_neg Bool.false_ne_true] at ht; exact ht)),_,StIs.rfl⟩
          rw [if_neg Bool.false_ne_true] at ht
          have e:underN one other ns = true:=List.any_eq_true.mpr ⟨_,List.mem_of_getElem? hq,ht⟩
          refine (show Q (.bl true) _ from ?_)
          rw [← e]
          exact k _ (((s12.trans s3).upd hp4).upd hl5)
    · rintro σ H' ⟨s2,hf,o3,rfl⟩
      dsimp only
      subst hB
      and_intros
      rw [List.length_map,List.take_length] at hf
      have e:underN one other ns = false:=hf
      have:=k _ (s1.trans s2)
      rw [e] at this
      exact this
theorem ok_Forest_is_beside {f:Addr} {fd:FuncData} (F:Fun K "is_beside" "Forest.is_beside" s_Forest_is_beside f fd) (T:Txt K mg ad) {f_Forest_standing:Addr} {fd_Forest_standing:FuncData} (G_Forest_standing:FnOk P w K mg base CX0 2 f_Forest_standing fd_Forest_standing ["self","mark"] (sp_Forest_standing ad)) {f_Forest_hanging:Addr} {fd_Forest_hanging:FuncData} (G_Forest_hanging:FnOk P w K mg base CX0 2 f_Forest_hanging fd_Forest_hanging ["self","place"] (sp_Forest_hanging ad)) {f_Forest_many:Addr} {fd_Forest_many:FuncData} (G_Forest_many:FnOk P w K mg base CX0 1 f_Forest_many fd_Forest_many ["self"] (sp_many ad)) (B_Forest_standing:Binds K fd_Forest_standing ["self","mark"] []) (B_Forest_hanging:Binds K fd_Forest_hanging ["self","place"] []) (B_Forest_many:Binds K fd_Forest_many ["self"] []) (ME_Forest_standing:Meth K ad.Forest "standing" f_Forest_standing) (ME_Forest_hanging:Meth K ad.Forest "hanging" f_Forest_hanging) (ME_Forest_many:Meth K ad.Forest "many" f_Forest_many):FnOk P w K mg base CX0 3 f fd ["self","one","other"] (sp_Forest_is_beside ad):=by
  refine F.ok sc_Forest_is_beside (fun vs H Q E h=>?_) (fun cdv A outer s H vs Q E hr h=>?_)
  · obtain ⟨p,ns,one,other,rfl,_⟩:=h
    rfl
  · obtain ⟨p,ns,one,other,rfl,ho,hso,k⟩:=h
    have hu:=hr.units
    refine ⟨_,(pss_cons (ps_for PassesOwn.never rfl (pi_list (pe_meth (pv 0) T.cl_Forest ME_Forest_standing G_Forest_standing (hr.mono (by decide)) B_Forest_standing .nil pass0 (pa_cons (pv 1) pa_nil))) (pg_name (i:=3) sc_Forest_is_beside.nd rfl (Or.inl rfl))
      (pss_cons (ps_set (i:=4) sc_Forest_is_beside.nd rfl (Or.inl rfl) (pe_op op_add (pe_ix ix_list (pe_meth (pv 0) T.cl_Forest ME_Forest_hanging G_Forest_hanging (hr.mono (by decide)) B_Forest_hanging .nil pass0 (pa_cons (pv 3) pa_nil)) (pe_un un_neg pe_int) (fun _ _=>rfl)) pe_int))
      (pss_one (ps_if (PW.pt (pw_and (pt_cmpR op_lt (pv 4) (pe_meth0 (pv 0) T.cl_Forest ME_Forest_many G_Forest_many (hr.mono (by decide)) B_Forest_many .nil pass0) (nomark _)) (pw_and1 (pt_cmpR (op_eqD hu) (pe_ix ix_tup (pe_fld (pv 0) rfl) (pv 4) (fun _ _=>rfl)) (pe_tup (pa_cons (pv 2) (pa_cons (pe_ix ix_tup (pe_ix ix_tup (pe_fld (pv 0) rfl) (pv 3) (fun _ _=>rfl)) pe_int (fun _ _=>rfl)) pa_nil))) (nomark _)))))
      (pss_one (ps_ret pe_bl))
      pss_nil))))
      (pss_one (ps_ret pe_bl))),?_⟩
    obtain ⟨hp,hd,hl⟩:=id ho
    obtain ⟨dx,t1,t2,xs,h1,h2,h3,h4⟩:=id hp
    have hlen:=h4.length
    refine tseq_open fun B hB=>?_
    refine (show tFor _ _ _ _ _ _ from ?_)
    unfold tFor
    refine split_it (fun J H1=>∃ l,Same H H1 ∧ H1 l = some (.lst ((idxs (isM one) 0 (namesN ns)).map V.int)) ∧ J = Itl K l) (fun G' hG=>?_) ?_
    · and_intros
      exact ⟨dx,_,h1,lookup_no (by decide +kernel) (by decide +kernel),p,ns,one,rfl,ho,fun l H1 _ s1 h=>⟨l,rfl,⟨_,SqL.of h⟩,hG _ _ ⟨l,s1,h,rfl⟩⟩⟩
    rintro _ H1 ⟨l,s1,hl1,rfl⟩
    refine for_list (xs:=(idxs (isM one) 0 (namesN ns)).map V.int) (fun i σ H'=>Same H1 H' ∧ (((idxs (isM one) 0 (namesN ns)).take i).any fun p=>decide (p.toNat + tailN ns p.toNat + 1 < ns.length) && decide (ns.getD (p.toNat + tailN ns p.toNat + 1) ("",0) = (other,(ns.getD p.toNat ("",0)).2))) = false ∧ ∃ o3 o4:Option V,StIs σ [some (.ref p),some (.str one),some (.str other),o3,o4]) ⟨Same.refl _,rfl,none,none,StIs.rfl⟩ (fun i σ H' _ ⟨e,_⟩=>SqL.of (e _ _ hl1)) ?_ ?_
    · rintro i x σ H' hx ⟨s2,hf,o3,o4,rfl⟩
      obtain ⟨q,hq,rfl⟩:=Option.map_eq_some_iff.mp (List.getElem?_map .. ▸ hx)
      obtain ⟨n,y,eq1,hx1,_⟩:=mem_idxs.mp (List.mem_of_getElem? hq)
      rw [Nat.zero_add] at eq1
      subst eq1
      have hn:n < ns.length:=by
        have:=(List.getElem?_eq_some_iff.mp hx1).1
        unfold namesN at this
        rwa [List.length_map] at this
      have tl:=tail_le ns n
      have s12:=s1.trans s2
      refine tseq_open fun B2 hB2=>?_
      and_intros
      refine ⟨dx,_,s12 _ _ h1,lookup_no (by decide +kernel) (by decide +kernel),p,ns,n,rfl,ho.same s12,hn,fun l3 H3 _ s3 hl3=>⟨l3,rfl,_,SqL.of hl3,_,hang_last ns n,_,rfl,?_⟩⟩
      have s13:=s12.trans s3
      subst hB2
      and_intros
      refine ⟨dx,_,s13 _ _ h1,lookup_no (by decide +kernel) (by decide +kernel),p,ns,rfl,hp.same s13,_,rfl,ite2 (fun hlt=>?_) fun hge=>?_⟩
      · have hlt':n + tailN ns n + 1 < ns.length:=by omega
        obtain ⟨n1,en1,t',ex1,ht1⟩:=h4.get (List.getElem?_eq_getElem (by omega:n + tailN ns n + 1 < xs.length))
        obtain ⟨n0,en0,t0,ex0,ht0⟩:=h4.get (List.getElem?_eq_getElem (by omega:n < xs.length))
        have e1:atI xs ((n:Int) + (tailN ns n:Int) + 1) = some (.ref t'):=by
          rw [show (n:Int) + (tailN ns n:Int) + 1 = ((n + tailN ns n + 1:Nat):Int) by omega,← ex1]
          exact atI_nat (List.getElem?_eq_getElem (by omega))
        have e0:atI xs (n:Int) = some (.ref t0):=by rw [← ex0]; exact atI_nat (List.getElem?_eq_getElem (by omega))
        refine ⟨ad.Forest,dx,_,s13 _ _ h1,T.cl_Forest,T.na_Forest_nodes,.ref t2,lookup2 (by decide +kernel),t2,rfl,xs,SqT.of (s13 _ _ h3),_,e1,ad.Forest,dx,_,s13 _ _ h1,T.cl_Forest,T.na_Forest_nodes,.ref t2,lookup2 (by decide +kernel),t2,rfl,xs,SqT.of (s13 _ _ h3),_,e0,t0,rfl,_,SqT.of (s13 _ _ ht0),_,rfl,?_⟩
        have f:(fun p:Int=>decide (p.toNat + tailN ns p.toNat + 1 < ns.length) && decide (ns.getD (p.toNat + tailN ns p.toNat + 1) ("",0) = (other,(ns.getD p.toNat ("",0)).2))) (n:Int) = decide (n1.1 = other ∧ n1.2 = n0.2):=by
          show (decide ((n:Int).toNat + tailN ns (n:Int).toNat + 1 < ns.length) && decide (ns.getD ((n:Int).toNat + tailN ns (n:Int).toNat + 1) ("",0) = (other,(ns.getD (n:Int).toNat ("",0)).2))) = _
          rw [Int.toNat_natCast,decide_eq_true hlt',Bool.true_and,List.getD_eq_getElem?_getD,List.getD_eq_getElem?_getD,en1,en0]
          show decide (n1 = (other,n0.2)) = _
          by_cases h1:n1.1 = other <;> by_cases h2:n1.2 = n0.2 <;> simp [h1,h2,Prod.ext_iff]
        refine ⟨by decide,fun p4 hp4=>⟨_,_,.tup (SqT.of ((s13.upd hp4) _ _ ht1)) (.cons (.str _) (.cons (.int _) .nil)),.tup (SqT.of upd_same) (.cons (.str _) (.cons (.int _) .nil)),shaped_pair (mark_strOk (depthOk_all hd n1 (List.mem_of_getElem? en1)).1) _,shaped_pair hso _,_,rfl,?_⟩⟩
        rw [if_neg Bool.false_ne_true,eqv_pair]
        refine ite2 (fun ht=>?_) fun ht=>⟨(s2.trans s3).upd hp4,any_take_more hq hf (f.trans (Bool.eq_false_iff.mpr ht)),_,_,StIs.rfl⟩
        have e:besideN one other ns = true:=List.any_eq_true.mpr ⟨_,List.mem_of_getElem? hq,f.trans ht⟩
        refine (show Q (.bl true) _ from ?_)
        rw [← e]
        exact k _ (s13.upd hp4)
      · refine ⟨s2.trans s3,any_take_more hq hf ?_,_,_,StIs.rfl⟩
        show (decide _ && _) = false
        rw [Int.toNat_natCast,decide_eq_false (by omega)]
        rfl
    · rintro σ H' ⟨s2,hf,o3,o4,rfl⟩
      dsimp only
      subst hB
      and_intros
      rw [List.length_map,List.take_length] at hf
      have e:besideN one other ns = false:=hf
      have:=k _ (s1.trans s2)
      rw [e] at this
      exact this
theorem ok_Table_init {f:Addr} {fd:FuncData} (F:Fun K "__init__" "Table.__init__" s_Table_init f fd) (T:Txt K mg ad) {f_check_lines:Addr} {fd_check_lines:FuncData} (G_check_lines:FnOk P w K mg base (CX1 P w) 3 f_check_lines fd_check_lines ["lines"] (sp_check_lines ad)) {f_Thing_init:Addr} {fd_Thing_init:FuncData} (G_Thing_init:FnOk P w K mg base CX0 1 f_Thing_init fd_Thing_init ["self","spot_marks"] (sp_Thing_init ad)) (D_check_lines:Def K mg "check_lines" s_check_lines ["lines"] f_check_lines fd_check_lines) (B_Thing_init:Binds K fd_Thing_init ["self","spot_marks"] []) (CM_Thing_init:ClsM K ad.Thing "__init__" f_Thing_init):FnOk P w K mg base (CX1 P w) 4 f fd ["self","lines"] (sp_Table_init ad):=by
  refine F.okX sc_Table_init (fun vs H Q E h=>?_) (fun cdv A outer s H vs Q E hr h=>?_)
  · obtain ⟨p,dx,v,rfl,_⟩:=h
    rfl
  · obtain ⟨p,dx,v,rfl,hp,t,kg,kb⟩:=h
    refine ⟨_,(pss_cons (ps_expr (pe_call G_check_lines (hr.mono (by decide)) rfl D_check_lines.mg D_check_lines.F.kp D_check_lines.b .nil pass1 (pa_cons (pv 1) pa_nil)))
      (pss_cons (ps_set (i:=2) sc_Table_init.nd rfl (Or.inl rfl) (pe_lst pa_nil))
      (pss_cons (ps_for PassesOwn.leaving rfl (pi_list (pv 1)) (pg_name (i:=3) sc_Table_init.nd rfl (Or.inl rfl))
      (pss_one (ps_expr (pe_bm PySem.F.plainAttrs_list PySem.F.slot_list_extend PySem.F.type_list_extend mt_extend (pv 2) (pa_cons (pv 3) pa_nil)))))
      (pss_cons (ps_expr (pe_clsm rfl T.c_Thing CM_Thing_init G_Thing_init (hr.mono (by decide)) B_Thing_init .nil pass0 (pa_cons (pv 0) (pa_cons (pv 2) pa_nil))))
      (pss_cons (ps_fld (pv 0) (pe_callTy call_tupL rfl T.tuple PyProof.Rows.boot_tuple (pa_cons (pe_comp (own:=["line"]) (cap:=[]) (ix:=[]) rfl (show CompScope ["self","lines","spot_marks","line"] (defScope s_Table_init) _ ["line"] [] [] from ⟨rfl,by decide +kernel,by decide +kernel,by decide +kernel,by decide +kernel,by decide +kernel,by decide +kernel,rfl,by decide +kernel⟩) (pi_list (pv 1)) (fun C s₀ H₀ ex pn=>⟨pg_name (i:=0) (show (["line"]:List Str).Nodup by decide +kernel) rfl (Or.inl rfl),pifs_nil,(pe_callTy (show CallR _ (.type "tuple") (rTupL K) from call_tupL) rfl T.tuple PyProof.Rows.boot_tuple (pa_cons (pv 0) pa_nil))⟩)) pa_nil)) rfl)
      (pss_one (ps_fld (pv 0) (pe_ifExp (pt_truth (pv 1) (fun _=>rfl)) (pe_callB call_lenL rfl T.len PySem.boot_len (pa_cons (pe_ix ix_list (pv 1) pe_int (fun _ _=>rfl)) pa_nil)) pe_int) rfl))))))),?_⟩
    and_intros
    refine ⟨v,rfl,t,fun hg H1 s1=>?_,fun hb H1 s1=>kb hb H1 fun b o _ e=>s1 b o e⟩
    obtain ⟨a,xs,ls,rfl,ha,hl,hn,hd⟩:=hg
    have hlen:=hn.length
    have hmk:=tab_marks hd
    have hl12:∀ l ∈ ls,l.length ≤ 12:=fun l h=>by have:=(wideT_all hd l h).1; have:=wideT_le hd; omega
    have hfl:∀ i,(ls.take i).flatten.length ≤ 144:=fun i=>by
      have h1:=flat_len (ls:=ls.take i) fun l h=>hl12 l (List.mem_of_mem_take h)
      have h2:(ls.take i).length ≤ 12:=by rw [List.length_take]; omega
      omega
    refine ⟨by decide,fun sm hsm=>?_⟩
    have ss:=Same.put (o:=.lst []) hsm
    refine ⟨_,rfl,a,rfl,⟨_,SqL.of (ss _ _ (s1 _ _ ha))⟩,for_list (xs:=xs) (fun i σ H'=>Same H1 H' ∧ H' sm = some (.lst (ls.take i).flatten) ∧ ∃ o,StIs σ [some (.ref p),some (.ref a),some (.ref sm),o]) ⟨ss,upd_same,none,StIs.rfl⟩ ?_ ?_ ?_⟩
    · rintro i σ H' _ ⟨s2,_⟩
      exact SqL.of (s2 _ _ (s1 _ _ ha))
    · rintro i x σ H' hx ⟨s2,hsm2,o,rfl⟩
      obtain ⟨l,el,c,ec,hc⟩:=hn.get hx
      subst ec
      and_intros
      have hl1:=hl12 l (List.mem_of_getElem? el)
      have hl2:=hfl i
      refine ⟨.inl ⟨rfl,_,SqL.of hsm2⟩,_,hsm2,l,s2 _ _ (s1 _ _ hc),Nat.le_of_lt (small1000 (by omega)),fun b o e=>?_,?_,_,StIs.rfl⟩
      · rw [upd_ne (ne_of_none e hsm)]; exact s2 b o e
      · rw [upd_same,List.take_add_one,el,List.flatten_append]; simp
    · rintro σ H' ⟨s2,hsm2,o,rfl⟩
      rw [hlen,List.take_length] at hsm2
      and_intros
      have s12:=s1.trans s2
      refine ⟨p,dx,sm,_,ad.Table,rfl,.inr (.inl rfl),s12 _ _ hp,hsm2,fun t1 oo ht1 hoc hod=>?_⟩
      have n1p:t1 ≠ p:=Ne.symm (ne_of_none (s12 _ _ hp) ht1)
      have hp2:(upd (upd H' t1 (.frz oo (.tup ls.flatten))) p (.ins ad.Table dx [("spot_marks",.ref t1)])) p = some (.ins ad.Table dx [("spot_marks",.ref t1)]):=upd_same
      have h1t:(upd (upd H' t1 (.frz oo (.tup ls.flatten))) p (.ins ad.Table dx [("spot_marks",.ref t1)])) t1 = some (.frz oo (.tup ls.flatten)):=by rw [upd_ne n1p]; exact upd_same
      have sb2:SameBut p H (upd (upd H' t1 (.frz oo (.tup ls.flatten))) p (.ins ad.Table dx [("spot_marks",.ref t1)])):=fun b o hb e=>by rw [upd_ne hb]; exact (s12.upd ht1) b o e
      generalize (upd (upd H' t1 (.frz oo (.tup ls.flatten))) p (.ins ad.Table dx [("spot_marks",.ref t1)])) = H2 at hp2 h1t sb2 ⊢
      have ha2:=sb2 a _ (ne_of ha hp (fun z=>nomatch z)) ha
      have hn2:RowsAt .lst H2 xs ls:=RowsAt.keep (f:=.lst) (fun b ys (e:H b = some (.lst ys))=>sb2 b _ (ne_of e hp (fun z=>nomatch z)) e) hn
      refine tcomp_list (a:=a) (xs:=xs) (H1:=H2) (fun R r=>⟨_,rfl,a,rfl,⟨_,SqL.of ha2⟩,r⟩) (fun i ys H'=>Same H2 H' ∧ RowsAt .tup H' ys (ls.take i)) ⟨Same.refl _,trivial⟩ (fun i ys H' _ ⟨s,_⟩=>SqL.of (s _ _ ha2)) ?_ ?_
      · rintro i x ys H' R hx ⟨s3,hr⟩ hR
        obtain ⟨l,el,c,ec,hc⟩:=hn2.get hx
        subst ec
        simp only [tYes]
        and_intros
        refine ⟨_,SqL.of (s3 _ _ hc),fun q hq=>⟨?_,hR _ _ ⟨s3.upd hq,?_⟩⟩⟩
        · rw [hr.length,List.length_take]; exact small1000 (by omega)
        · rw [List.take_add_one,el]
          exact (hr.same (Same.put hq)).append ⟨⟨q,rfl,upd_same⟩,trivial⟩
      · rintro ys H' ⟨s3,hr⟩
        rw [hlen,List.take_length] at hr
        refine ⟨?_,fun D hD=>?_⟩
        · rw [hr.length]; exact Nat.le_of_lt (small1000 (by omega))
        and_intros
        refine ⟨_,SqL.of upd_same,fun t2 ht2=>?_⟩
        have s4:=(s3.upd (o:=.lst ys) hD).upd (o:=.tup ys) ht2
        have h2t:(upd (upd H' D (.lst ys)) t2 (.tup ys)) t2 = some (.tup ys):=upd_same
        have hr4:=hr.same ((Same.put (o:=.lst ys) hD).upd (o:=.tup ys) ht2)
        generalize (upd (upd H' D (.lst ys)) t2 (.tup ys)) = H4 at s4 h2t hr4 ⊢
        have hp4:=s4 _ _ hp2
        refine ⟨ad.Table,dx,_,hp4,T.cl_Table,T.na_Table_lines,by show 1 < 1000; decide,?_⟩
        rw [putF2 (by decide +kernel)]
        have t1p:=s4 _ _ h1t
        have n2p:t2 ≠ p:=ne_of h2t hp4 (fun z=>nomatch z)
        have sx:∀ o,SameBut p H4 (upd H4 p o):=fun o b u hb e=>by rw [upd_ne hb]; exact e
        have ha5:=fun o=>sx o a _ (ne_of ha hp (fun z=>nomatch z)) (s4 _ _ ha2)
        have hn5:∀ o,RowsAt .lst (upd H4 p o) xs ls:=fun o=>RowsAt.keep (f:=.lst) (fun b ys (e:H4 b = some (.lst ys))=>sx o b _ (ne_of e hp4 (fun z=>nomatch z)) e) (hn2.same s4)
        have fin:∀ cw:Int,cw = (wideT ls:Int) → Q .non (upd (upd H4 p (.ins ad.Table dx [("spot_marks",.ref t1),("lines",.ref t2)])) p (.ins ad.Table dx (putF "columns" (.int cw) [("spot_marks",.ref t1),("lines",.ref t2)]))):=fun cw e=>by
          rw [putF3 (by decide +kernel) (by decide +kernel),upd_upd,e]
          refine kg a xs ls rfl ha hl hn hd _ ⟨dx,t1,t2,ys,upd_same,?_,?_,?_,wideT_le hd,by omega,wideT_all hd⟩ fun b o hb e=>?_
          · exact ⟨oo,by rw [upd_ne n1p]; exact t1p,hoc,hod⟩
          · rw [upd_ne n2p]; exact h2t
          · exact RowsAt.keep (f:=.tup) (fun b zs (e:H4 b = some (.tup zs))=>sx _ b _ (ne_of e hp4 (fun z=>nomatch z)) e) hr4
          · rw [upd_ne hb]; exact s4 _ _ (sb2 b o hb e)
        refine ⟨!xs.isEmpty,.inl ⟨xs,SqL.of (ha5 _),rfl⟩,ite2 (fun hne=>?_) fun hne=>?_⟩
        · cases xs with
          | nil=>cases hne
          | cons x0 xr =>
            cases ls with
            | nil=>exact hn.elim
            | cons l0 lr =>
              obtain ⟨c0,ec0,hc0⟩:=(hn5 (.ins ad.Table dx [("spot_marks",.ref t1),("lines",.ref t2)])).1
              refine ⟨_,SqL.of (ha5 _),x0,atI_nat (j:=0) rfl,c0,ec0,_,SqL.of hc0,_,_,_,upd_same,T.cl_Table,T.na_Table_columns,by show 2 < 1000; decide,fin _ rfl⟩
        · refine ⟨_,_,_,upd_same,T.cl_Table,T.na_Table_columns,by show 2 < 1000; decide,fin _ ?_⟩
          cases xs with
          | nil =>
            cases ls with
            | nil=>rfl
            | cons l0 lr=>exact hn.elim
          | cons x0 xr=>exact absurd rfl hne
theorem ok_Table_many {f:Addr} {fd:FuncData} (F:Fun K "many" "Table.many" s_Table_many f fd) (T:Txt K mg ad):FnOk P w K mg base CX0 1 f fd ["self"] (sp_Table_many ad):=by
  refine F.ok sc_Table_many (fun vs H Q E h=>?_) (fun cdv A outer s H vs Q E hr h=>?_)
  · obtain ⟨p,ls,w,rfl,_⟩:=h
    rfl
  · obtain ⟨p,ls,w,rfl,⟨dx,t1,t2,xs,h1,h2,h3,h4,_⟩,k⟩:=h
    refine ⟨_,(pss_one (ps_ret (pe_op op_add (pe_callB call_lenT rfl T.len PySem.boot_len (pa_cons (pe_fld (pv 0) rfl) pa_nil)) (pe_fld (pv 0) rfl)))),?_⟩
    and_intros
    refine ⟨ad.Table,dx,_,h1,T.cl_Table,T.na_Table_lines,.ref t2,lookup3b (by decide +kernel),t2,rfl,_,SqT.of h3,?_⟩
    refine ⟨ad.Table,dx,_,h1,T.cl_Table,T.na_Table_columns,.int w,lookup3 (by decide +kernel) (by decide +kernel),_,rfl,?_⟩
    rw [h4.length]
    exact k
theorem ok_Table_left {f:Addr} {fd:FuncData} (F:Fun K "left" "Table.left" s_Table_left f fd) (T:Txt K mg ad) {f_check_places:Addr} {fd_check_places:FuncData} (G_check_places:FnOk P w K mg base (CX1 P w) 2 f_check_places fd_check_places ["places","many"] (sp_check_places ad)) {f_Table_many:Addr} {fd_Table_many:FuncData} (G_Table_many:FnOk P w K mg base CX0 1 f_Table_many fd_Table_many ["self"] (sp_Table_many ad)) {f_Table_init:Addr} {fd_Table_init:FuncData} (G_Table_init:FnOk P w K mg base (CX1 P w) 4 f_Table_init fd_Table_init ["self","lines"] (sp_Table_init ad)) {f_marks_at:Addr} {fd_marks_at:FuncData} (G_marks_at:FnOk P w K mg base CX0 1 f_marks_at fd_marks_at ["marks","places"] (sp_marks_at K)) (D_check_places:Def K mg "check_places" s_check_places ["places","many"] f_check_places fd_check_places) (D_marks_at:Def K mg "marks_at" s_marks_at ["marks","places"] f_marks_at fd_marks_at) (B_Table_many:Binds K fd_Table_many ["self"] []) (B_Table_init:Binds K fd_Table_init ["self","lines"] []) (ME_Table_many:Meth K ad.Table "many" f_Table_many) (M_Table:Mk K ad.Table f_Table_init):FnOk P w K mg base (CX1 P w) 6 f fd ["self","places"] (sp_Table_left ad):=by
  refine F.okX sc_Table_left (fun vs H Q E h=>?_) (fun cdv A outer s H vs Q E hr h=>?_)
  · obtain ⟨p,v,ls,w,rfl,_⟩:=h
    rfl
  · obtain ⟨p,v,ls,w,rfl,hp,t,kg,kb⟩:=h
    refine ⟨_,(pss_cons (ps_expr (pe_call G_check_places (hr.mono (by decide)) rfl D_check_places.mg D_check_places.F.kp D_check_places.b .nil pass1 (pa_cons (pv 1) (pa_cons (pe_meth0 (pv 0) T.cl_Table ME_Table_many G_Table_many (hr.mono (by decide)) B_Table_many .nil pass0) pa_nil))))
      (pss_cons (ps_set (i:=2) sc_Table_left.nd rfl (Or.inr rfl) (pe_callB call_lenT rfl T.len PySem.boot_len (pa_cons (pe_fld (pv 0) rfl) pa_nil)))
      (pss_cons (ps_setC (i:=3) rfl sc_Table_left.nd rfl (Or.inl rfl) (show CompScope ["self","places","first_column","lines","columns","rest"] (defScope s_Table_left) _ ["place"] ["self","first_column"] [0,2] from ⟨rfl,by decide +kernel,by decide +kernel,by decide +kernel,by decide +kernel,by decide +kernel,by decide +kernel,rfl,by decide +kernel⟩) (pi_list (pv 1)) (fun C s₀ H₀ ex pn=>⟨pg_name (i:=0) (show (["place","self","first_column"]:List Str).Nodup by decide +kernel) rfl (Or.inl rfl),(pifs_one (pt_cmpR op_lt (pv 0) (pv 2) (nomark _))),(pe_ix (show IxR _ (rIxT K) from ix_tup) (show PE _ _ (tFld K _ _) from pe_fld (pv 1) rfl) (pv 0) (fun _ _=>rfl))⟩))
      (pss_cons (ps_set (i:=4) sc_Table_left.nd rfl (Or.inr rfl) (pe_comp (own:=["place"]) (cap:=["first_column"]) (ix:=[2]) rfl (show CompScope ["self","places","first_column","lines","columns","rest"] (defScope s_Table_left) _ ["place"] ["first_column"] [2] from ⟨rfl,by decide +kernel,by decide +kernel,by decide +kernel,by decide +kernel,by decide +kernel,by decide +kernel,rfl,by decide +kernel⟩) (pi_list (pv 1)) (fun C s₀ H₀ ex pn=>⟨pg_name (i:=0) (show (["place","first_column"]:List Str).Nodup by decide +kernel) rfl (Or.inl rfl),(pifs_one (pt_cmpR op_ge (pv 0) (pv 1) (nomark _))),(pe_op op_sub (pv 0) (pv 1))⟩)))
      (pss_cons (ps_set (i:=5) sc_Table_left.nd rfl (Or.inl rfl) (pe_make M_Table G_Table_init (hr.mono (by decide)) rfl T.c_Table B_Table_init .nil pass1 (pa_cons (pe_comp (own:=["line"]) (cap:=["columns"]) (ix:=[4]) rfl (show CompScope ["self","places","first_column","lines","columns","rest"] (defScope s_Table_left) _ ["line"] ["columns"] [4] from ⟨rfl,by decide +kernel,by decide +kernel,by decide +kernel,by decide +kernel,by decide +kernel,by decide +kernel,rfl,by decide +kernel⟩) (pi_list (pv 3)) (fun C s₀ H₀ ex pn=>⟨pg_name (i:=0) (show (["line","columns"]:List Str).Nodup by decide +kernel) rfl (Or.inl rfl),pifs_nil,(pe_call G_marks_at (hr.mono (by decide)) rfl D_marks_at.mg D_marks_at.F.kp D_marks_at.b .nil pass0 (pa_cons (pv 0) (pa_cons (pv 1) pa_nil)))⟩)) pa_nil)))
      (pss_cons (ps_fld (pv 5) (pe_callB call_lenL rfl T.len PySem.boot_len (pa_cons (pv 4) pa_nil)) rfl)
      (pss_one (ps_ret (pv 5))))))))),?_⟩
    obtain ⟨dx,t1,t2,ts,h1,h2,h3,h4,h5,h6,h7⟩:=id hp
    refine tseq_open fun B hB=>?_
    and_intros
    refine ⟨dx,_,h1,lookup_no3 (by decide +kernel) (by decide +kernel) (by decide +kernel),p,ls,w,rfl,hp,v,_,rfl,t,fun hg H1 s1=>?_,fun hb H1 s1=>kb hb H1 s1⟩
    obtain ⟨a,ps,rfl,ha,hok⟩:=hg
    have lps:=places_len hok (by omega)
    subst hB
    refine tseq_open fun B hB=>?_
    and_intros
    refine ⟨ad.Table,dx,_,s1 _ _ h1,T.cl_Table,T.na_Table_lines,.ref t2,lookup3b (by decide +kernel),t2,rfl,_,SqT.of (s1 _ _ h3),?_⟩
    rw [h4.length]
    subst hB
    refine tseq_open fun B hB=>?_
    and_intros
    have lts:=h4.length
    have h1a:=s1 _ _ h1
    have h3a:=s1 _ _ h3
    have h4a:=h4.same s1
    have haa:=s1 _ _ ha
    refine tcomp_list (K:=K) (a:=a) (xs:=ps.map V.int) (H1:=H1) (fun R rr=>⟨_,rfl,a,rfl,⟨_,SqL.of haa⟩,rr⟩) (fun i ys H'=>H' = H1 ∧ RowsAt .tup H1 ys ((linesOf ls.length (ps.take i)).map fun i=>ls.getD i.toNat [])) ⟨rfl,trivial⟩ (fun i ys H' _ ⟨e,_⟩=>e ▸ SqL.of haa) ?_ ?_
    · rintro i x ys H' R hx ⟨rfl,hr⟩ hR
      rw [List.getElem?_map] at hx
      obtain ⟨q,eq,rfl⟩:=Option.map_eq_some_iff.mp hx
      obtain ⟨q0,q1⟩:=places_all hok q (List.mem_of_getElem? eq)
      have et:ps.take (i + 1) = ps.take i ++ [q]:=by rw [List.take_add_one,eq]; rfl
      and_intros
      refine ite2 (fun hlt=>?_) fun hlt=>hR _ _ ⟨rfl,?_⟩
      · obtain ⟨qn,rfl⟩:=Int.eq_ofNat_of_zero_le q0
        have hqn:qn < ts.length:=by omega
        obtain ⟨lq,elq,rq⟩:=h4a.get (List.getElem?_eq_getElem hqn)
        refine ⟨ad.Table,dx,_,h1a,T.cl_Table,T.na_Table_lines,.ref t2,lookup3b (by decide +kernel),t2,rfl,_,SqT.of h3a,_,atI_nat (List.getElem?_eq_getElem hqn),?_,hR _ _ ⟨rfl,?_⟩⟩
        · rw [hr.length,List.length_map]
          have:=linesOf_len (n:=ls.length) (places_take i hok)
          exact small1000 (by omega)
        · rw [et,linesOf_add,if_pos hlt,List.map_append]
          refine hr.append ⟨?_,trivial⟩
          show RowAt .tup _ _ (ls.getD ((qn:Int)).toNat [])
          rw [Int.toNat_natCast,List.getD_eq_getElem?_getD,elq]
          exact rq
      · rw [et,linesOf_add,if_neg hlt,List.append_nil]
        exact hr
    · rintro ys H' ⟨rfl,hr⟩
      rw [show (ps.map V.int).length = ps.length from List.length_map _,List.take_length] at hr
      have l12:=linesOf_len (n:=ls.length) hok
      have c12:=colsOf_len (n:=ls.length) hok
      refine ⟨by rw [hr.length,List.length_map]; exact Nat.le_of_lt (small1000 (by omega)),fun D hD=>?_⟩
      have s2:=Same.put (o:=.lst ys) hD
      have fD:(upd H' D (.lst ys)) D = some (.lst ys):=upd_same
      generalize (upd H' D (.lst ys)) = H2 at s2 fD ⊢
      have hab:=s2 _ _ haa
      subst hB
      refine tseq_open fun B hB=>?_
      and_intros
      refine tcomp_list (K:=K) (a:=a) (xs:=ps.map V.int) (H1:=H2) (fun R rr=>⟨_,rfl,a,rfl,⟨_,SqL.of hab⟩,rr⟩) (fun i zs H'=>H' = H2 ∧ zs = (colsOf ls.length (ps.take i)).map V.int) ⟨rfl,rfl⟩ (fun i ys H' _ ⟨e,_⟩=>e ▸ SqL.of hab) ?_ ?_
      · rintro i x zs H' R hx ⟨rfl,rfl⟩ hR
        rw [List.getElem?_map] at hx
        obtain ⟨q,eq,rfl⟩:=Option.map_eq_some_iff.mp hx
        have et:ps.take (i + 1) = ps.take i ++ [q]:=by rw [List.take_add_one,eq]; rfl
        and_intros
        refine ite2 (fun hle=>⟨?_,hR _ _ ⟨rfl,?_⟩⟩) fun hle=>hR _ _ ⟨rfl,?_⟩
        · rw [List.length_map]
          have:=colsOf_len (n:=ls.length) (places_take i hok)
          exact small1000 (by omega)
        · rw [et,colsOf_add,if_pos hle,List.map_append]; rfl
        · rw [et,colsOf_add,if_neg hle,List.append_nil]
      · rintro zs H' ⟨rfl,rfl⟩
        rw [show (ps.map V.int).length = ps.length from List.length_map _,List.take_length]
        refine ⟨by rw [List.length_map]; exact Nat.le_of_lt (small1000 (by omega)),fun D2 hD2=>?_⟩
        have s3:=Same.put (o:=.lst ((colsOf ls.length ps).map V.int)) hD2
        have fD2:(upd H' D2 (.lst ((colsOf ls.length ps).map V.int))) D2 = some (.lst ((colsOf ls.length ps).map V.int)):=upd_same
        generalize (upd H' D2 (.lst ((colsOf ls.length ps).map V.int))) = H3 at s3 fD2 ⊢
        have fD3:=s3 _ _ fD
        have hr3:=hr.same (s2.trans s3)
        have llen:=hr.length
        rw [List.length_map] at llen
        subst hB
        refine tseq_open fun B hB=>?_
        and_intros
        refine tcomp_list (K:=K) (a:=D) (xs:=ys) (H1:=H3) (fun R rr=>⟨_,rfl,D,rfl,⟨_,SqL.of fD3⟩,rr⟩) (fun i zs H'=>Same H3 H' ∧ RowsAt .lst H' zs ((leftT ls ps).take i)) ⟨Same.refl _,trivial⟩ (fun i ys H' _ ⟨s,_⟩=>SqL.of (s _ _ fD3)) ?_ ?_
        · rintro i x zs H' R hx ⟨s4,hz⟩ hR
          obtain ⟨li,eli,ti,eti,hti⟩:=hr3.get hx
          rw [List.getElem?_map] at eli
          obtain ⟨q,eq,rfl⟩:=Option.map_eq_some_iff.mp eli
          obtain ⟨q0,q1⟩:=linesOf_all hok q (List.mem_of_getElem? eq)
          subst eti
          simp only [tYes]
          and_intros
          have hqn:q.toNat < ls.length:=by omega
          have elq:ls.getD q.toNat [] = ls[q.toNat]:=by rw [List.getD_eq_getElem?_getD,List.getElem?_eq_getElem hqn]; rfl
          have hlq:=h7 _ (List.getElem_mem hqn)
          refine ⟨ti,D2,_,colsOf ls.length ps,rfl,SqT.of (s4 _ _ hti),s4 _ _ fD2,fun j hj=>?_,by omega,fun l hl=>⟨?_,hR _ _ ⟨s4.upd hl,?_⟩⟩⟩
          · have:=colsOf_all hok j hj
            rw [elq,hlq.1]
            exact this
          · rw [hz.length, List.length_take]; exact small1000 (by have : (leftT ls ps).length = (linesOf ls.length ps).length := List.length_map _
                                                                  omega)
          · have e2:(leftT ls ps)[i]? = some ((colsOf ls.length ps).map fun j=>(ls.getD q.toNat []).getD j.toNat .non):=by
              unfold leftT
              rw [List.getElem?_map,eq]
              rfl
            rw [List.take_add_one,e2]
            exact (hz.same (Same.put hl)).append ⟨⟨l,rfl,upd_same⟩,trivial⟩
        · rintro zs H' ⟨s4,hz⟩
          have lT:(leftT ls ps).length = (linesOf ls.length ps).length:=List.length_map _
          rw [show ys.length = (leftT ls ps).length by omega,List.take_length] at hz
          have hzl:=hz.length
          refine ⟨Nat.le_of_lt (small1000 (by omega)),fun D3 hD3 x6 dx6 hx hdx hne=>?_⟩
          have okT:∀ l ∈ leftT ls ps,lineOk (colsOf ls.length ps).length l:=fun l hl=>by
            obtain ⟨q,hq,rfl⟩:=List.mem_map.mp hl
            obtain ⟨q0,q1⟩:=linesOf_all hok q hq
            have hqn:q.toNat < ls.length:=by omega
            have elq:ls.getD q.toNat [] = ls[q.toNat]:=by rw [List.getD_eq_getElem?_getD,List.getElem?_eq_getElem hqn]; rfl
            have hlq:=h7 _ (List.getElem_mem hqn)
            refine ⟨List.length_map _,?_⟩
            rw [List.all_eq_true]
            intro x hx
            obtain ⟨j,hj,rfl⟩:=List.mem_map.mp hx
            obtain ⟨j0,j1⟩:=colsOf_all hok j hj
            have hjn:j.toNat < (ls[q.toNat]).length:=by rw [hlq.1]; omega
            rw [elq,List.getD_eq_getElem?_getD,List.getElem?_eq_getElem hjn,Option.getD_some]
            exact List.all_eq_true.mp hlq.2 _ (List.getElem_mem hjn)
          have tT:tabOk (leftT ls ps):=⟨_,by omega,okT⟩
          have sA:=(((s1.trans s2).trans s3).trans s4).upd (o:=.lst zs) hD3
          have f3:(upd H' D3 (.lst zs)) D3 = some (.lst zs):=upd_same
          have hz3:=hz.same (Same.put (o:=.lst zs) hD3)
          have fC:=(s4.upd (o:=.lst zs) hD3) _ _ fD2
          generalize (upd H' D3 (.lst zs)) = H5 at sA f3 hz3 fC hx hdx ⊢
          have s67:Same H5 (upd (upd H5 dx6 (.own x6)) x6 (.ins ad.Table dx6 [])):=(Same.put hdx).upd (by rw [upd_ne (Ne.symm hne)]; exact hx)
          have hl6:=s67 D3 _ f3
          have hz6:=hz3.same s67
          refine ⟨x6,dx6,.ref D3,rfl,upd_same,thg5_lst hl6 (hz6.thg2 fun l hl=>(okT l hl).2),fun a' xs' ls' e h hl' hm' hd' H8 hrow sb=>⟨rfl,?_⟩,fun hb=>absurd ⟨D3,_,_,rfl,hl6,by omega,hz6,tT⟩ hb⟩
          cases e
          rw [hl6] at h
          cases h
          rw [hm'.uniq hz6] at hrow
          have s68:Same H5 H8:=fun b o e=>sb b o (ne_of_none e hx) (s67 b o e)
          obtain ⟨dx8,u1,u2,us,g1,g2,g3,g4,g5,g6,g7⟩:=hrow
          subst hB
          and_intros
          refine ⟨_,SqL.of (s68 _ _ fC),_,_,_,g1,T.cl_Table,T.na_Table_columns,by show 3 < 1000; decide,?_⟩
          rw [putF3c (by decide +kernel) (by decide +kernel),List.length_map]
          have nu:∀ b o,H8 b = some o → (∀ c d e,o ≠ HO.ins c d e) → b ≠ x6:=fun b o e h=>ne_of e g1 (h _ _ _)
          refine kg a ps rfl ha hok x6 _ (fun b o e=>?_) ⟨dx8,u1,u2,us,upd_same,?_,?_,?_,by omega,by omega,okT⟩
          · rw [upd_ne (ne_of_none (sA _ _ e) hx)]; exact s68 _ _ (sA _ _ e)
          · exact g2.to fun o e=>by rw [upd_ne (nu _ _ e fun _ _ _ z=>nomatch z)]; exact e
          · rw [upd_ne (nu _ _ g3 fun _ _ _ z=>nomatch z)]; exact g3
          · exact RowsAt.keep (f:=.tup) (fun b zs (e:H8 b = some (.tup zs))=>by rw [upd_ne (nu _ _ e fun _ _ _ z=>nomatch z)]; exact e) g4
theorem ok_Table_form {f:Addr} {fd:FuncData} (F:Fun K "form" "Table.form" s_Table_form f fd) (T:Txt K mg ad):FnOk P w K mg base CX0 1 f fd ["self"] (sp_Table_form ad):=by
  refine F.ok sc_Table_form (fun vs H Q E h=>?_) (fun cdv A outer s H vs Q E hr h=>?_)
  · obtain ⟨p,ls,w,rfl,_⟩:=h
    rfl
  · obtain ⟨p,ls,w,rfl,⟨dx,t1,t2,xs,h1,h2,h3,h4,_⟩,k⟩:=h
    refine ⟨_,(pss_one (ps_ret (pe_tup (pa_cons pe_str (pa_cons (pe_fld (pv 0) rfl) (pa_cons (pe_fld (pv 0) rfl) pa_nil)))))),?_⟩
    and_intros
    refine ⟨ad.Table,dx,_,h1,T.cl_Table,T.na_Table_columns,.int w,lookup3 (by decide +kernel) (by decide +kernel),?_⟩
    exact ⟨ad.Table,dx,_,h1,T.cl_Table,T.na_Table_lines,.ref t2,lookup3b (by decide +kernel),by decide,fun l hl=>k t2 xs l h3 h4 hl⟩
theorem ok_Table_is_under {f:Addr} {fd:FuncData} (F:Fun K "is_under" "Table.is_under" s_Table_is_under f fd) (T:Txt K mg ad) {f_stands_ahead:Addr} {fd_stands_ahead:FuncData} (G_stands_ahead:FnOk P w K mg base CX0 1 f_stands_ahead fd_stands_ahead ["marks","one","other"] (sp_stands_ahead K)) (D_stands_ahead:Def K mg "stands_ahead" s_stands_ahead ["marks","one","other"] f_stands_ahead fd_stands_ahead):FnOk P w K mg base CX0 2 f fd ["self","one","other"] (sp_Table_is_under ad):=by
  refine F.ok sc_Table_is_under (fun vs H Q E h=>?_) (fun cdv A outer s H vs Q E hr h=>?_)
  · obtain ⟨p,ls,w,one,other,rfl,_⟩:=h
    rfl
  · obtain ⟨p,ls,w,one,other,rfl,⟨dx,t1,t2,ts,h1,h2,h3,h4,h5,h6,h7⟩,k⟩:=h
    refine ⟨_,(pss_cons (ps_for PassesOwn.never rfl (pi_range1 rfl T.range (pa_cons (pe_fld (pv 0) rfl) pa_nil)) (pg_name (i:=3) sc_Table_is_under.nd rfl (Or.inr rfl))
      (pss_one (ps_if (pt_val (pe_call G_stands_ahead (hr.mono (by decide)) rfl D_stands_ahead.mg D_stands_ahead.F.kp D_stands_ahead.b .nil pass0 (pa_cons (pe_comp (own:=["line"]) (cap:=["column"]) (ix:=[3]) rfl (show CompScope ["self","one","other","column"] (defScope s_Table_is_under) _ ["line"] ["column"] [3] from ⟨rfl,by decide +kernel,by decide +kernel,by decide +kernel,by decide +kernel,by decide +kernel,by decide +kernel,rfl,by decide +kernel⟩) (pi_tup (pe_fld (pv 0) rfl)) (fun C s₀ H₀ ex pn=>⟨pg_name (i:=0) (show (["line","column"]:List Str).Nodup by decide +kernel) rfl (Or.inl rfl),pifs_nil,(pe_ix (show IxR _ (rIxT K) from ix_tup) (pv 0) (pv 1) (fun _ _=>rfl))⟩)) (pa_cons (pv 1) (pa_cons (pv 2) pa_nil)))))
      (pss_one (ps_ret pe_bl))
      pss_nil)))
      (pss_one (ps_ret pe_bl))),?_⟩
    have hlen:=h4.length
    refine tseq_open fun B hB=>?_
    refine (show tFor _ _ _ _ _ _ from ?_)
    unfold tFor
    have split:∀ {wi:TI} {σ:St} {H:Hp} {G:It → Hp → Prop} (J0:It),(∀ G':It → Hp → Prop,G' J0 H → wi σ H G') → G J0 H → wi σ H G:=fun _ h g=>h _ g
    refine split (Itr 0 w) (fun G' hG'=>?_) ?_
    · and_intros
      exact ⟨ad.Table,dx,_,h1,T.cl_Table,T.na_Table_columns,.int w,lookup3 (by decide +kernel) (by decide +kernel),w,rfl,by omega,by omega,hG'⟩
    refine for_range (n:=w) (fun i σ H'=>Same H H' ∧ ((List.range i).any fun c=>aheadB one other (ls.map fun l=>l.getD c .non)) = false ∧ ∃ o3:Option V,StIs σ [some (.ref p),some (.str one),some (.str other),o3]) ⟨Same.refl _,rfl,none,StIs.rfl⟩ ?_ ?_
    · rintro i σ H' hi ⟨s1,hf,o3,rfl⟩
      and_intros
      refine tcomp_tup (K:=K) (a:=t2) (xs:=ts) (H1:=H') (fun R rr=>⟨_,rfl,p,ad.Table,dx,_,.ref t2,rfl,s1 _ _ h1,T.cl_Table,T.na_Table_lines,lookup3b (by decide +kernel),t2,rfl,⟨_,SqT.of (s1 _ _ h3)⟩,rr⟩) (fun j ys H2=>H2 = H' ∧ ys = (ls.take j).map fun l=>l.getD i .non) ⟨rfl,rfl⟩ (fun i ys H' _ ⟨e,_⟩=>e ▸ SqT.of (s1 _ _ h3)) ?_ ?_
      · rintro j x ys H2 R hx ⟨rfl,rfl⟩ hR
        obtain ⟨li,el,tt,ex,ht⟩:=h4.get hx
        subst ex
        have hj:=(List.getElem?_eq_some_iff.mp hx).1
        have hli:=h7 li (List.mem_of_getElem? el)
        have hil:i < li.length:=by have:=hli.1; omega
        have e:(ls.take (j + 1)).map (fun l=>l.getD i .non) = (ls.take j).map (fun l=>l.getD i .non) ++ [li.getD i .non]:=by
          rw [List.take_add_one,el,List.map_append]
          rfl
        and_intros
        refine tYes_in ?_
        refine ⟨li,SqT.of (s1 _ _ ht),li.getD i .non,?_,?_,hR _ _ ⟨rfl,e.symm⟩⟩
        · rw [Int.zero_add,atI_nat (List.getElem?_eq_getElem hil),List.getD_eq_getElem?_getD,List.getElem?_eq_getElem hil]
          rfl
        · rw [List.length_map,List.length_take]
          exact small1000 (by omega)
      · rintro ys H2 ⟨rfl,rfl⟩
        rw [hlen,List.take_length]
        refine ⟨by rw [List.length_map]; exact Nat.le_of_lt (small1000 (by omega)),fun D hD=>⟨D,_,one,other,rfl,.inl (SqL.of upd_same),?_,_,rfl,ite2 (fun ht=>?_) fun ht=>⟨s1.upd hD,?_,_,StIs.rfl⟩⟩⟩
        · rw [List.all_map,List.all_eq_true]
          intro l hl
          have h:=h7 l hl
          have hil:i < l.length:=by have:=h.1; omega
          show markV (l.getD i .non) = true
          rw [List.getD_eq_getElem?_getD,List.getElem?_eq_getElem hil]
          exact List.all_eq_true.mp h.2 _ (List.getElem_mem hil)
        · have e:underT one other ls w = true:=List.any_eq_true.mpr ⟨i,List.mem_range.mpr hi,ht⟩
          refine (show Q (.bl true) _ from ?_)
          rw [← e]
          exact k _ (s1.upd hD)
        · rw [List.range_succ,List.any_append,hf]
          have ht':=Bool.eq_false_iff.mpr ht
          rw [List.any_cons,ht']
          rfl
    · rintro σ H' ⟨s1,hf,o3,rfl⟩
      dsimp only
      subst hB
      and_intros
      have e:underT one other ls w = false:=hf
      have:=k _ s1
      rw [e] at this
      exact this
theorem ok_Table_is_beside {f:Addr} {fd:FuncData} (F:Fun K "is_beside" "Table.is_beside" s_Table_is_beside f fd) (T:Txt K mg ad) {f_stands_right_ahead:Addr} {fd_stands_right_ahead:FuncData} (G_stands_right_ahead:FnOk P w K mg base CX0 1 f_stands_right_ahead fd_stands_right_ahead ["marks","one","other"] sp_stands_right_ahead) (D_stands_right_ahead:Def K mg "stands_right_ahead" s_stands_right_ahead ["marks","one","other"] f_stands_right_ahead fd_stands_right_ahead):FnOk P w K mg base CX0 2 f fd ["self","one","other"] (sp_Table_is_beside ad):=by
  refine F.ok sc_Table_is_beside (fun vs H Q E h=>?_) (fun cdv A outer s H vs Q E hr h=>?_)
  · obtain ⟨p,ls,w,one,other,rfl,_⟩:=h
    rfl
  · obtain ⟨p,ls,w,one,other,rfl,⟨dx,t1,t2,ts,h1,h2,h3,h4,h5,h6,h7⟩,k⟩:=h
    refine ⟨_,(pss_one (ps_ret (pe_callB (call_any rfl) rfl T.any (by decide +kernel) (pa_cons (pe_comp (own:=["line"]) (cap:=["one","other"]) (ix:=[1,2]) rfl (show CompScope ["self","one","other"] (defScope s_Table_is_beside) _ ["line"] ["one","other"] [1,2] from ⟨rfl,by decide +kernel,by decide +kernel,by decide +kernel,by decide +kernel,by decide +kernel,by decide +kernel,rfl,by decide +kernel⟩) (pi_tup (pe_fld (pv 0) rfl)) (fun C s₀ H₀ ex pn=>⟨pg_name (i:=0) (show (["line","one","other"]:List Str).Nodup by decide +kernel) rfl (Or.inl rfl),pifs_nil,(pe_call G_stands_right_ahead (hr.mono (by decide)) rfl D_stands_right_ahead.mg D_stands_right_ahead.F.kp D_stands_right_ahead.b .nil pass0 (pa_cons (pv 0) (pa_cons (pv 1) (pa_cons (pv 2) pa_nil))))⟩)) pa_nil)))),?_⟩
    have hlen:=h4.length
    and_intros
    refine tcomp_tup (K:=K) (a:=t2) (xs:=ts) (H1:=H) (fun R rr=>⟨_,rfl,p,ad.Table,dx,_,.ref t2,rfl,h1,T.cl_Table,T.na_Table_lines,lookup3b (by decide +kernel),t2,rfl,⟨_,SqT.of h3⟩,rr⟩) (fun i ys H'=>Same H H' ∧ ys = ((ls.take i).map (nextB one other)).map V.bl) ⟨Same.refl _,rfl⟩ (fun i ys H' _ ⟨e,_⟩=>SqT.of (e _ _ h3)) ?_ ?_
    · rintro i x ys H' R hx ⟨s1,rfl⟩ hR
      obtain ⟨li,el,tt,ex,ht⟩:=h4.get hx
      subst ex
      have hi:=(List.getElem?_eq_some_iff.mp hx).1
      have hli:=h7 li (List.mem_of_getElem? el)
      have e:((ls.take (i + 1)).map (nextB one other)).map V.bl = ((ls.take i).map (nextB one other)).map V.bl ++ [V.bl (nextB one other li)]:=by
        rw [List.take_add_one,el,List.map_append,List.map_append]
        rfl
      and_intros
      refine tYes_in ?_
      refine ⟨tt,li,one,other,rfl,.inl (s1 _ _ ht),hli.2,by have:=hli.1; omega,fun H2 s2=>⟨?_,hR _ _ ⟨s1.trans s2,e.symm⟩⟩⟩
      rw [List.length_map,List.length_map,List.length_take]
      exact small1000 (by omega)
    · rintro ys H' ⟨s1,rfl⟩
      rw [hlen,List.take_length]
      and_intros
      refine ⟨by rw [List.length_map,List.length_map]; exact Nat.le_of_lt (small1000 (by omega)),fun D hD=>?_⟩
      refine ⟨_,SqL.of upd_same,?_⟩
      rw [List.any_map]
      exact k _ (s1.upd hD)
theorem ok__law_cell_at {f:Addr} {fd:FuncData} (D:Def K mg "_law_cell_at" s__law_cell_at ["_law_script","_law_k"] f fd) (T:Txt K mg ad):FnOk P w K mg base CX0 1 f fd ["_law_script","_law_k"] (sp__law_cell_at K):=by
  refine D.F.ok sc__law_cell_at (fun vs H Q E h=>?_) (fun cdv A outer s H vs Q E hr h=>?_)
  · obtain ⟨a,ns,k,rfl,_⟩:=h
    rfl
  · obtain ⟨a,ns,k,rfl,hS,q⟩:=h
    refine ⟨_,(pss_cons (ps_if (pt_cmpR op_lt (pv 1) (pe_callB call_lenL rfl T.len PySem.boot_len (pa_cons (pv 0) pa_nil)) (nomark _))
      (pss_one (ps_ret (pe_ix ix_list (pv 0) (pv 1) (fun _ _=>rfl))))
      pss_nil)
      (pss_one (ps_ret pe_int))),?_⟩
    and_intros
    refine ⟨_,hS,ite2 (fun h1=>?_) (fun h1=>?_)⟩
    · have h1:k < ns.length:=by rw [List.length_map] at h1; omega
      have e:cellF ns k = ns[k]:=by unfold cellF; rw [List.getD_eq_getElem?_getD,List.getElem?_eq_getElem h1]; rfl
      rw [e] at q
      exact ⟨_,hS,_,atI_nat (by rw [List.getElem?_map,List.getElem?_eq_getElem h1]; rfl),q⟩
    · have h1:ns.length ≤ k:=by rw [List.length_map] at h1; omega
      have e:cellF ns k = 0:=by unfold cellF; rw [List.getD_eq_getElem?_getD,List.getElem?_eq_none h1]; rfl
      rw [e] at q
      exact q
theorem ok__law_mix {f:Addr} {fd:FuncData} (D:Def K mg "_law_mix" s__law_mix ["_law_seed","_law_k"] f fd) (T:Txt K mg ad):FnOk P w K mg base CX0 1 f fd ["_law_seed","_law_k"] sp__law_mix:=by
  refine D.F.ok sc__law_mix (fun vs H Q E h=>?_) (fun cdv A outer s H vs Q E hr h=>?_)
  · obtain ⟨a,k,rfl,_⟩:=h
    rfl
  · obtain ⟨a,k,rfl,h0,h1,q⟩:=h
    refine ⟨_,(pss_cons (ps_set (i:=2) sc__law_mix.nd rfl (Or.inl rfl) (pe_op op_mod (pe_op op_mul (pe_op op_add (pe_op op_add (pe_op op_add (pe_op op_mod (pv 0) (pe_op op_pow pe_int pe_int)) (pe_op op_mul pe_int (pv 1))) (pe_op op_mul (pe_op op_mul (pv 1) (pv 1)) (pv 1))) pe_int) pe_int) pe_int))
      (pss_one (ps_ret (pe_op op_mod (pe_op op_mul (pv 2) pe_int) pe_int)))),?_⟩
    and_intros
    exact ⟨⟨by decide,by decide,by decide⟩,by decide,.inl ⟨by decide,by decide⟩,.inl ⟨by omega,by omega⟩,.inr ⟨by omega,by omega⟩,.inr ⟨by decide,by decide⟩,.inr ⟨by decide,by decide⟩,q⟩
theorem ok__law_how_many {f:Addr} {fd:FuncData} (D:Def K mg "_law_how_many" s__law_how_many ["_law_number"] f fd) (T:Txt K mg ad):FnOk P w K mg base CX0 1 f fd ["_law_number"] sp__law_how_many:=by
  refine D.F.ok sc__law_how_many (fun vs H Q E h=>?_) (fun cdv A outer s H vs Q E hr h=>?_)
  · obtain ⟨n,rfl,_⟩:=h
    rfl
  · obtain ⟨n,rfl,q⟩:=h
    refine ⟨_,(pss_cons (ps_if (pt_cmpR op_eq (pe_op op_mod (pe_op op_fdiv (pv 0) pe_int) pe_int) pe_int (nomark _))
      (pss_one (ps_ret (pe_op op_add pe_int (pe_op op_mod (pe_op op_fdiv (pv 0) pe_int) pe_int))))
      pss_nil)
      (pss_one (ps_ret (pe_op op_add pe_int (pe_op op_mod (pv 0) pe_int))))),?_⟩
    and_intros
    refine ite2 (fun _=>q _ ?_ ?_) (fun _=>q _ ?_ ?_) <;> omega
theorem ok__law_marks {f:Addr} {fd:FuncData} (D:Def K mg "_law_marks" s__law_marks ["_law_cell","_law_many"] f fd) (T:Txt K mg ad):FnOk P w K mg base CX0 1 f fd ["_law_cell","_law_many"] sp__law_marks:=by
  refine D.F.ok sc__law_marks (fun vs H Q E h=>?_) (fun cdv A outer s H vs Q E hr h=>?_)
  · obtain ⟨c,n,rfl,_⟩:=h
    rfl
  · obtain ⟨c,n,rfl,h0,h1,k⟩:=h
    have fin:∀ b < 8,∀ a ≤ b,(Txt.slice (Txt.slice ("marksof":Str) none (some ((b:Nat):Int))) none (some ((a:Nat):Int))).length + (Txt.slice (Txt.slice ("marksof":Str) none (some ((b:Nat):Int))) (some ((a:Nat):Int)) none).length = b ∧
        (Txt.slice (Txt.slice ("marksof":Str) none (some ((b:Nat):Int))) none (some ((a:Nat):Int))).cps.toList.all (fun x=>decide (x ∈ LET.cps.toList)) = true ∧ (Txt.slice (Txt.slice ("marksof":Str) none (some ((b:Nat):Int))) (some ((a:Nat):Int)) none).cps.toList.all (fun x=>decide (x ∈ LET.cps.toList)) = true ∧
        (Txt.slice ("marksof":Str) none (some ((b:Nat):Int))).length = b:=by decide +kernel
    obtain ⟨b,hb⟩:=Int.eq_ofNat_of_zero_le (Int.emod_nonneg c (show (8:Int) ≠ 0 by decide))
    have hb8:b < 8:=by have:=Int.emod_lt_of_pos c (show (0:Int) < 8 by decide); omega
    refine ⟨_,(pss_cons (ps_set (i:=2) sc__law_marks.nd rfl (Or.inr rfl) pe_str)
      (pss_cons (ps_set (i:=3) sc__law_marks.nd rfl (Or.inr rfl) (pe_slice sl_str pe_str po_none (po_some (pe_op op_mod (pv 0) pe_int))))
      (pss_cons (ps_set (i:=4) sc__law_marks.nd rfl (Or.inr rfl) (pe_op op_mod (pe_op op_fdiv (pv 0) pe_int) (pe_op op_add (pe_callB call_len_str rfl T.len PySem.boot_len (pa_cons (pv 3) pa_nil)) pe_int)))
      (pss_cons (ps_set (i:=5) sc__law_marks.nd rfl (Or.inr rfl) (pe_op op_mod (pe_op op_fdiv (pv 0) pe_int) pe_int))
      (pss_cons (ps_set (i:=6) sc__law_marks.nd rfl (Or.inr rfl) (pe_op op_add pe_int (pe_op op_mod (pe_op op_fdiv (pv 0) pe_int) pe_int)))
      (pss_cons (ps_if (pt_cmpR op_gt (pv 1) pe_int (nomark _))
      (pss_one (ps_set (i:=6) sc__law_marks.nd rfl (Or.inr rfl) pe_int))
      pss_nil)
      (pss_one (ps_ret (pe_comp (own:=["_law_k"]) (cap:=["_law_base","_law_letters","_law_at","_law_first","_law_step"]) (ix:=[3,2,4,5,6]) rfl (show CompScope ["_law_cell","_law_many","_law_letters","_law_base","_law_at","_law_first","_law_step"] (defScope s__law_marks) _ ["_law_k"] ["_law_base","_law_letters","_law_at","_law_first","_law_step"] [3,2,4,5,6] from ⟨rfl,by decide +kernel,by decide +kernel,by decide +kernel,by decide +kernel,by decide +kernel,by decide +kernel,rfl,by decide +kernel⟩) (pi_range1 rfl T.range (pa_cons (pv 1) pa_nil)) (fun C s₀ H₀ ex pn=>⟨pg_name (i:=0) (show (["_law_k","_law_base","_law_letters","_law_at","_law_first","_law_step"]:List Str).Nodup by decide +kernel) rfl (Or.inl rfl),pifs_nil,(pe_op op_add_str (pe_op op_add_str (pe_slice sl_str (pv 1) po_none (po_some (pv 3))) (pe_ix ix_str (pv 2) (pe_op op_mod (pe_op op_add (pv 4) (pe_op op_mul (pv 0) (pv 5))) pe_int) (fun _ _=>rfl))) (pe_slice sl_str (pv 1) (po_some (pv 3)) po_none))⟩)))))))))),?_⟩
    and_intros
    rw [hb]
    generalize hB:Txt.slice ("marksof":Str) none (some ((b:Nat):Int)) = B
    have lB:B.length = b:=by rw [← hB]; exact (fin b hb8 0 (Nat.zero_le _)).2.2.2
    have finB:=fin b hb8
    rw [hB] at finB
    obtain ⟨a,ha⟩:=Int.eq_ofNat_of_zero_le (Int.emod_nonneg (c / 8) (show (B.length:Int) + 1 ≠ 0 by omega))
    have ha8:a ≤ b:=by have:=Int.emod_lt_of_pos (c / 8) (show (0:Int) < (B.length:Int) + 1 by omega); omega
    rw [ha]
    obtain ⟨f1,f2,f3,_⟩:=finB a ha8
    have hsz:∀ {z:Str},z.length ≤ 1000 → z.length ≤ sizeLine:=fun h=>Nat.le_of_lt (small1000 h)
    have mk:∀ x:Nat,x ∈ LET.cps.toList → markS (Txt.slice B none (some (a:Int)) ++ ⟨#[x]⟩ ++ Txt.slice B (some (a:Int)) none) = true:=fun x hx=>by
      refine mark_of ?_ ?_ fun y hy=>letC_iff.mpr ?_
      · rw [Str.length_append,Str.length_append,one_len]; omega
      · rw [Str.length_append,Str.length_append,one_len]; omega
      · have hy':y ∈ (Txt.slice B none (some (a:Int))).cps.toList ∨ y = x ∨ y ∈ (Txt.slice B (some (a:Int)) none).cps.toList:=by
          rw [app_list,app_list,List.mem_append,List.mem_append] at hy
          rcases hy with (h | h) | h
          · exact .inl h
          · exact .inr (.inl (by simpa using h))
          · exact .inr (.inr h)
        rcases hy' with h | h | h
        · exact of_decide_eq_true (List.all_eq_true.mp f2 y h)
        · rw [h]; exact hx
        · exact of_decide_eq_true (List.all_eq_true.mp f3 y h)
    refine ⟨hsz (by decide +kernel),hsz (by omega),by omega,ite2 (fun _=>?_) fun _=>?_⟩
    all_goals
      refine tcomp_range (lo:=0) (n:=n.toNat) (H1:=H) (fun R r=>⟨_,rfl,n,rfl,by omega,by omega,r⟩) (fun i ys H'=>H' = H ∧ ∃ zs:List Str,ys = zs.map V.str ∧ zs.length = i ∧ ∀ z ∈ zs,markS z = true) ⟨rfl,[],rfl,rfl,fun _ z=>nomatch z⟩ ?_ ?_
      · rintro i ys H' R hi ⟨rfl,zs,rfl,hm,hz⟩ hR
        have go:=fun j:Int=>at_str (z:=LET) (i:=j) (m:=26) (by decide) (by decide +kernel)
        simp only [tYes]
        and_intros
        refine ⟨hsz (by omega),.inl ⟨by omega,by omega⟩,hsz (by decide +kernel),?_⟩
        obtain ⟨x,hx,ex⟩:=go _
        refine ⟨x,ex,?_,hsz (by omega),?_,?_,hR _ _ ⟨rfl,zs ++ [_],by rw [List.map_append]; rfl,by rw [List.length_append,hm]; rfl,fun z hz'=>?_⟩⟩
        · rw [one_len]; exact Nat.le_of_lt (small1000 (by omega))
        · rw [Str.length_append,one_len]; exact Nat.le_of_lt (small1000 (by omega))
        · rw [List.length_map,hm]; exact small1000 (by omega)
        · rcases List.mem_append.mp hz' with h | h
          · exact hz z h
          · rw [List.mem_singleton.mp h]; exact mk x hx
      · rintro ys H' ⟨rfl,zs,rfl,hm,hz⟩
        refine ⟨?_,fun l hl=>k zs l _ hm hz (Same.put hl) upd_same⟩
        rw [List.length_map,hm]
        exact Nat.le_of_lt (small1000 (by omega))
theorem ok__law_pick {f:Addr} {fd:FuncData} (D:Def K mg "_law_pick" s__law_pick ["_law_cell","_law_marks_here"] f fd) (T:Txt K mg ad):FnOk P w K mg base CX0 1 f fd ["_law_cell","_law_marks_here"] sp__law_pick:=by
  refine D.F.ok sc__law_pick (fun vs H Q E h=>?_) (fun cdv A outer s H vs Q E hr h=>?_)
  · obtain ⟨c,a,zs,rfl,_⟩:=h
    rfl
  · obtain ⟨c,a,zs,rfl,ha,hz,q⟩:=h
    have go:∀ i:Int,∃ z ∈ zs,atI (zs.map V.str) (i % (zs.map V.str).length) = some (.str z):=fun i=>by
      obtain ⟨v,hv,_,e⟩:=atI_mod (xs:=zs.map V.str) (i:=i) (m:=(zs.map V.str).length) (by rw [List.length_map]; omega) (Int.le_refl _)
      obtain ⟨z,hz,rfl⟩:=List.mem_map.mp hv
      exact ⟨z,hz,e⟩
    have hp:(0:Int) < (zs.map V.str).length:=by rw [List.length_map]; omega
    refine ⟨_,(pss_cons (ps_if (pt_cmpR op_gt (pe_callB call_lenL rfl T.len PySem.boot_len (pa_cons (pv 1) pa_nil)) pe_int (nomark _))
      (pss_one (ps_ret (pe_ix ix_list (pv 1) (pe_op op_mod (pe_op op_add (pe_op op_mul pe_int (pv 0)) (pe_op op_fdiv (pv 0) pe_int)) (pe_callB call_lenL rfl T.len PySem.boot_len (pa_cons (pv 1) pa_nil))) (fun _ _=>rfl))))
      pss_nil)
      (pss_one (ps_ret (pe_ix ix_list (pv 1) (pe_op op_mod (pe_op op_mod (pv 0) pe_int) (pe_callB call_lenL rfl T.len PySem.boot_len (pa_cons (pv 1) pa_nil))) (fun _ _=>rfl))))),?_⟩
    and_intros
    refine ⟨_,SqL.of ha,ite2 (fun _=>?_) fun _=>?_⟩
    · obtain ⟨z,hm,e⟩:=go (5 * c + c / 7)
      exact ⟨.inl ⟨by decide,by decide⟩,_,SqL.of ha,hp,_,SqL.of ha,_,e,q z hm⟩
    · obtain ⟨z,hm,e⟩:=go (c % 7)
      exact ⟨_,SqL.of ha,hp,_,SqL.of ha,_,e,q z hm⟩
theorem ok__law_cells {f:Addr} {fd:FuncData} (D:Def K mg "_law_cells" s__law_cells ["_law_script","_law_begin","_law_seed","_law_many"] f fd) (T:Txt K mg ad) {f__law_mix:Addr} {fd__law_mix:FuncData} (G__law_mix:FnOk P w K mg base CX0 1 f__law_mix fd__law_mix ["_law_seed","_law_k"] sp__law_mix) (D__law_mix:Def K mg "_law_mix" s__law_mix ["_law_seed","_law_k"] f__law_mix fd__law_mix):FnOk P w K mg base CX0 2 f fd ["_law_script","_law_begin","_law_seed","_law_many"] (sp__law_cells K):=by
  refine D.F.ok sc__law_cells (fun vs H Q E h=>?_) (fun cdv A outer s H vs Q E hr h=>?_)
  · obtain ⟨a,ns,b,sd,rfl,_⟩:=h
    rfl
  · obtain ⟨a,ns,b,sd,rfl,h0,hS,k⟩:=h
    refine ⟨_,(pss_cons (ps_if (pt_cmpR op_eq (pe_op op_mod (pv 2) pe_int) pe_int (nomark _))
      (pss_cons (ps_set (i:=4) sc__law_cells.nd rfl (Or.inl rfl) (pe_lst pa_nil))
      (pss_cons (ps_set (i:=5) sc__law_cells.nd rfl (Or.inl rfl) (pe_op op_fdiv (pv 2) pe_int))
      (pss_cons (ps_for PassesOwn.never rfl (pi_range1 rfl T.range (pa_cons (pe_op op_mod (pe_op op_fdiv (pv 2) pe_int) pe_int) pa_nil)) (pg_name (i:=6) sc__law_cells.nd rfl (Or.inl rfl))
      (pss_cons (ps_expr (pe_bm PySem.F.plainAttrs_list PySem.F.slot_list_append PySem.F.type_list_append mt_append (pv 4) (pa_cons (pe_op op_mod (pv 5) pe_int) pa_nil)))
      (pss_one (ps_set (i:=5) sc__law_cells.nd rfl (Or.inl rfl) (pe_op op_fdiv (pv 5) pe_int)))))
      (pss_one (ps_ret (pv 4))))))
      pss_nil)
      (pss_cons (ps_if (pt_cmpR op_ne (pe_op op_mod (pe_op op_fdiv (pv 2) pe_int) pe_int) pe_int (nomark _))
      (pss_one (ps_ret (pe_slice sl_list (pv 0) (po_some (pv 1)) (po_some (pe_op op_add (pv 1) pe_int)))))
      pss_nil)
      (pss_one (ps_ret (pe_comp (own:=["_law_k"]) (cap:=["_law_seed"]) (ix:=[2]) rfl (show CompScope ["_law_script","_law_begin","_law_seed","_law_many","_law_cells_here","_law_rest","_law_k"] (defScope s__law_cells) _ ["_law_k"] ["_law_seed"] [2] from ⟨rfl,by decide +kernel,by decide +kernel,by decide +kernel,by decide +kernel,by decide +kernel,by decide +kernel,rfl,by decide +kernel⟩) (pi_range1 rfl T.range (pa_cons (pe_op op_mod (pe_op op_fdiv (pv 2) pe_int) (pe_op op_add (pv 3) pe_int)) pa_nil)) (fun C s₀ H₀ ex pn=>⟨pg_name (i:=0) (show (["_law_k","_law_seed"]:List Str).Nodup by decide +kernel) rfl (Or.inl rfl),pifs_nil,(pe_call G__law_mix (hr.mono (by decide)) rfl D__law_mix.mg D__law_mix.F.kp D__law_mix.b .nil pass0 (pa_cons (pe_op op_fdiv (pv 1) pe_int) (pa_cons (pv 0) pa_nil)))⟩)))))),?_⟩
    and_intros
    refine ite2 (fun _=>⟨by decide,fun l hl=>?_⟩) fun _=>ite2 (fun _=>?_) fun _=>?_
    · have s0:Same H (upd H l (.lst [])):=Same.put hl
      refine ⟨_,rfl,_,_,rfl,rfl,⟨by decide,by decide⟩,_,_,rfl,rfl,by show (0:Int) < 11; decide,_,rfl,by omega,by omega,for_range (n:=(sd / 2 % 11).toNat) (fun i σ H'=>∃ (ms:List Int) (rest:Int) (o:Option V),H' = upd H l (.lst (ms.map V.int)) ∧ ms.length = i ∧ StIs σ [some (.ref a),some (.int b),some (.int sd),some (.int 40),some (.ref l),some (.int rest),o]) ⟨[],_,none,rfl,rfl,StIs.rfl⟩ ?_ ?_⟩
      · rintro i σ H' hi ⟨ms,rest,o,rfl,hm,rfl⟩
        and_intros
        refine ⟨.inl ⟨rfl,_,SqL.of upd_same⟩,_,upd_same,?_,ms ++ [rest % 182],?_,?_,rest / 182,_,StIs.rfl⟩
        · rw [List.length_map]; exact small1000 (by omega)
        · rw [upd_upd,List.map_append]; rfl
        · rw [List.length_append,hm]; rfl
      · rintro σ H' ⟨ms,rest,o,rfl,hm,rfl⟩
        and_intros
        exact k ms l _ (by omega) (Same.put hl) upd_same
    · refine ⟨_,hS,fun l hl=>?_⟩
      have e1:cutV (ns.map V.int) (some b) (some (b + 10)) = ((ns.drop (HT.sIx (ns.map V.int).length 0 (some b))).take (HT.sIx (ns.map V.int).length (ns.map V.int).length (some (b + 10)) - HT.sIx (ns.map V.int).length 0 (some b))).map V.int:=by
        unfold cutV
        rw [List.map_take,List.map_drop]
      rw [e1]
      refine k _ l _ ?_ (Same.put hl) upd_same
      obtain ⟨bn,rfl⟩:=Int.eq_ofNat_of_zero_le h0
      have e2:((bn:Int) + 10) = ((bn + 10:Nat):Int):=by omega
      rw [e2,HT.sIx_nat,HT.sIx_nat,List.length_take]
      omega
    · refine tcomp_range (lo:=0) (n:=(sd / 10 % (40 + 1)).toNat) (H1:=H) (fun R r=>?_) (fun i ys H'=>H' = H ∧ ∃ ms:List Int,ys = ms.map V.int ∧ ms.length = i) ⟨rfl,[],rfl,rfl⟩ ?_ ?_
      · and_intros
        exact ⟨by omega,by omega,by omega,r⟩
      · rintro i ys H' R hi ⟨rfl,ms,rfl,hm⟩ hR
        refine ⟨_,rfl,_,_,rfl,rfl,⟨by decide,by decide⟩,_,rfl,sd / 10,0 + i,rfl,by omega,by omega,?_,hR _ _ ⟨rfl,ms ++ [mixF (sd / 10) (0 + i)],by simp,by simp [hm]⟩⟩
        rw [List.length_map,hm]
        exact small1000 (by omega)
      · rintro ys H' ⟨rfl,ms,rfl,hm⟩
        refine ⟨?_,fun l hl=>k ms l _ (by omega) (Same.put hl) upd_same⟩
        rw [List.length_map,hm]
        exact Nat.le_of_lt (small1000 (by omega))
theorem ok__law_nodes {f:Addr} {fd:FuncData} (D:Def K mg "_law_nodes" s__law_nodes ["_law_cells_here","_law_marks_here"] f fd) (T:Txt K mg ad) {f__law_pick:Addr} {fd__law_pick:FuncData} (G__law_pick:FnOk P w K mg base CX0 1 f__law_pick fd__law_pick ["_law_cell","_law_marks_here"] sp__law_pick) (D__law_pick:Def K mg "_law_pick" s__law_pick ["_law_cell","_law_marks_here"] f__law_pick fd__law_pick):FnOk P w K mg base CX0 2 f fd ["_law_cells_here","_law_marks_here"] sp__law_nodes:=by
  refine D.F.ok sc__law_nodes (fun vs H Q E h=>?_) (fun cdv A outer s H vs Q E hr h=>?_)
  · obtain ⟨c,m,ms,zs,rfl,_⟩:=h
    rfl
  · obtain ⟨c,m,ms,zs,rfl,hc,hm,hl,hz0,hz,k⟩:=h
    refine ⟨_,(pss_cons (ps_set (i:=2) sc__law_nodes.nd rfl (Or.inl rfl) (pe_lst pa_nil))
      (pss_cons (ps_set (i:=3) sc__law_nodes.nd rfl (Or.inl rfl) pe_int)
      (pss_cons (ps_set (i:=4) sc__law_nodes.nd rfl (Or.inl rfl) (pe_and (pe_cmpR op_gt (pe_callB call_lenL rfl T.len PySem.boot_len (pa_cons (pv 0) pa_nil)) pe_int (nomark _)) (pe_one (pe_cmpR op_eq (pe_op op_mod (pe_ix ix_list (pv 0) pe_int (fun _ _=>rfl)) pe_int) pe_int (nomark _)))))
      (pss_cons (ps_for PassesOwn.never rfl (pi_list (pv 0)) (pg_name (i:=5) sc__law_nodes.nd rfl (Or.inl rfl))
      (pss_cons (ps_set (i:=6) sc__law_nodes.nd rfl (Or.inl rfl) (pe_op op_mod (pe_op op_fdiv (pv 5) pe_int) (pe_op op_add (pv 3) pe_int)))
      (pss_cons (ps_if (PW.pt (pw_or (pt_val (pv 4)) (pw_or1 (pt_cmpR op_eq (pe_op op_mod (pe_op op_fdiv (pv 5) pe_int) pe_int) pe_int (nomark _)))))
      (pss_one (ps_set (i:=6) sc__law_nodes.nd rfl (Or.inl rfl) (pv 3)))
      pss_nil)
      (pss_cons (ps_expr (pe_bm PySem.F.plainAttrs_list PySem.F.slot_list_append PySem.F.type_list_append mt_append (pv 2) (pa_cons (pe_tup (pa_cons (pe_call G__law_pick (hr.mono (by decide)) rfl D__law_pick.mg D__law_pick.F.kp D__law_pick.b .nil pass0 (pa_cons (pv 5) (pa_cons (pv 1) pa_nil))) (pa_cons (pv 6) pa_nil))) pa_nil)))
      (pss_one (ps_set (i:=3) sc__law_nodes.nd rfl (Or.inl rfl) (pe_callB (call_min2 rfl) rfl T.min (by decide +kernel) (pa_cons (pe_op op_add (pv 6) pe_int) (pa_cons pe_int pa_nil)))))))))
      (pss_one (ps_ret (pv 2))))))),?_⟩
    and_intros
    refine ⟨by decide,fun l hl1=>?_⟩
    have s0:=Same.put (o:=.lst []) hl1
    refine ⟨_,SqL.of (s0 _ _ hc),ite2 (fun h=>?_) fun h=>?_⟩
    · obtain ⟨j0,r0,ems⟩:∃ j0 r0,ms = j0 :: r0:=by
        cases ms with
        | nil=>exact absurd h (by decide)
        | cons j0 r0=>exact ⟨j0,r0,rfl⟩
      refine ⟨_,SqL.of (s0 _ _ hc),.int j0,atI_nat (j:=0) (by rw [ems]; rfl),j0,rfl,?_⟩
      refine ⟨_,rfl,c,rfl,⟨_,SqL.of (s0 _ _ hc)⟩,for_list (xs:=ms.map V.int) (fun i σ H'=>Same H H' ∧ ∃ (xs:List V) (ns:List Nd) (ch:Bool) (o5 o6:Option V),H' l = some (.lst xs) ∧ NodesAt H' xs ns ∧ depthOk 0 ns ∧ ns.length = i ∧ 0 ≤ deepAfter 0 ns ∧ StIs σ [some (.ref c),some (.ref m),some (.ref l),some (.int (deepAfter 0 ns)),some (.bl ch),o5,o6]) ⟨s0,[],[],_,none,none,upd_same,trivial,trivial,rfl,Int.le_refl _,StIs.rfl⟩ ?_ ?_ ?_⟩
      · rintro i σ H' _ ⟨s1,_⟩
        exact SqL.of (s1 _ _ hc)
      · rintro i x σ H' hx ⟨s1,xs,ns,ch,o5,o6,hl2,hn,hd,hi,hd0,rfl⟩
        have hi40:i < ms.length:=by have:=(List.getElem?_eq_some_iff.mp hx).1; rw [List.length_map] at this; exact this
        obtain ⟨j,_,rfl⟩:=List.mem_map.mp (List.mem_of_getElem? hx)
        generalize hD:deepAfter 0 ns = d at hd0 ⊢
        and_intros
        have m0:=Int.emod_nonneg (j / 14) (show d + 1 ≠ 0 by omega)
        have m1:=Int.emod_lt_of_pos (j / 14) (show 0 < d + 1 by omega)
        refine ⟨by omega,ite2 (fun _=>?_) fun _=>ite2 (fun _=>?_) fun _=>?_⟩
        · have he0:=hd0
          have he1:=Int.le_refl d
          refine ⟨.inl ⟨rfl,_,SqL.of hl2⟩,j,m,zs,rfl,s1 _ _ hm,hz0,fun z hz1=>⟨by decide,fun p hp=>?_⟩⟩
          have s2:=s1.upd (o:=.tup [.str z,.int d]) hp
          have npl:p ≠ l:=Ne.symm (ne_of_none hl2 hp)
          have l2:=(Same.put (o:=.tup [.str z,.int d]) hp) l _ hl2
          have sF:Same H (upd (upd H' p (.tup [.str z,.int d])) l (.lst (xs ++ [.ref p]))):=fun b o e=>by rw [upd_ne (ne_of_none e hl1)]; exact s2 b o e
          have tp:(upd (upd H' p (.tup [.str z,.int d])) l (.lst (xs ++ [.ref p]))) p = some (.tup [.str z,.int d]):=by rw [upd_ne npl]; exact upd_same
          have e1:deepAfter 0 (ns ++ [(z,d)]) = if 12 < d + 1 then 12 else d + 1:=by
            rw [deepAfter_append]
            show min (d + 1) 12 = _
            split <;> omega
          refine ⟨xs,l2,by rw [hn.length]; exact small1000 (by omega),sF,_,upd_same,ns ++ [(z,d)],?_,?_,?_,?_,ch,some (.int j),some (.int d),?_⟩
          · refine NodesAt.append (hn.tups fun b ys e=>?_) ⟨⟨p,rfl,tp⟩,trivial⟩
            rw [upd_ne (ne_of e hl2 (fun z=>nomatch z)),upd_ne (ne_of_none e hp)]
            exact e
          · exact depthOk_append.mpr ⟨hd,hz z hz1,he0,by rw [hD]; exact he1,trivial⟩
          · rw [List.length_append,hi]; rfl
          · rw [e1]; split <;> omega
          · rw [e1]; exact StIs.rfl
        · have he0:=hd0
          have he1:=Int.le_refl d
          refine ⟨.inl ⟨rfl,_,SqL.of hl2⟩,j,m,zs,rfl,s1 _ _ hm,hz0,fun z hz1=>⟨by decide,fun p hp=>?_⟩⟩
          have s2:=s1.upd (o:=.tup [.str z,.int d]) hp
          have npl:p ≠ l:=Ne.symm (ne_of_none hl2 hp)
          have l2:=(Same.put (o:=.tup [.str z,.int d]) hp) l _ hl2
          have sF:Same H (upd (upd H' p (.tup [.str z,.int d])) l (.lst (xs ++ [.ref p]))):=fun b o e=>by rw [upd_ne (ne_of_none e hl1)]; exact s2 b o e
          have tp:(upd (upd H' p (.tup [.str z,.int d])) l (.lst (xs ++ [.ref p]))) p = some (.tup [.str z,.int d]):=by rw [upd_ne npl]; exact upd_same
          have e1:deepAfter 0 (ns ++ [(z,d)]) = if 12 < d + 1 then 12 else d + 1:=by
            rw [deepAfter_append]
            show min (d + 1) 12 = _
            split <;> omega
          refine ⟨xs,l2,by rw [hn.length]; exact small1000 (by omega),sF,_,upd_same,ns ++ [(z,d)],?_,?_,?_,?_,ch,some (.int j),some (.int d),?_⟩
          · refine NodesAt.append (hn.tups fun b ys e=>?_) ⟨⟨p,rfl,tp⟩,trivial⟩
            rw [upd_ne (ne_of e hl2 (fun z=>nomatch z)),upd_ne (ne_of_none e hp)]
            exact e
          · exact depthOk_append.mpr ⟨hd,hz z hz1,he0,by rw [hD]; exact he1,trivial⟩
          · rw [List.length_append,hi]; rfl
          · rw [e1]; split <;> omega
          · rw [e1]; exact StIs.rfl
        · have he0:=m0
          have he1:j / 14 % (d + 1) ≤ d:=by omega
          refine ⟨.inl ⟨rfl,_,SqL.of hl2⟩,j,m,zs,rfl,s1 _ _ hm,hz0,fun z hz1=>⟨by decide,fun p hp=>?_⟩⟩
          have s2:=s1.upd (o:=.tup [.str z,.int (j / 14 % (d + 1))]) hp
          have npl:p ≠ l:=Ne.symm (ne_of_none hl2 hp)
          have l2:=(Same.put (o:=.tup [.str z,.int (j / 14 % (d + 1))]) hp) l _ hl2
          have sF:Same H (upd (upd H' p (.tup [.str z,.int (j / 14 % (d + 1))])) l (.lst (xs ++ [.ref p]))):=fun b o e=>by rw [upd_ne (ne_of_none e hl1)]; exact s2 b o e
          have tp:(upd (upd H' p (.tup [.str z,.int (j / 14 % (d + 1))])) l (.lst (xs ++ [.ref p]))) p = some (.tup [.str z,.int (j / 14 % (d + 1))]):=by rw [upd_ne npl]; exact upd_same
          have e1:deepAfter 0 (ns ++ [(z,(j / 14 % (d + 1)))]) = if 12 < (j / 14 % (d + 1)) + 1 then 12 else (j / 14 % (d + 1)) + 1:=by
            rw [deepAfter_append]
            show min ((j / 14 % (d + 1)) + 1) 12 = _
            split <;> omega
          refine ⟨xs,l2,by rw [hn.length]; exact small1000 (by omega),sF,_,upd_same,ns ++ [(z,(j / 14 % (d + 1)))],?_,?_,?_,?_,ch,some (.int j),some (.int (j / 14 % (d + 1))),?_⟩
          · refine NodesAt.append (hn.tups fun b ys e=>?_) ⟨⟨p,rfl,tp⟩,trivial⟩
            rw [upd_ne (ne_of e hl2 (fun z=>nomatch z)),upd_ne (ne_of_none e hp)]
            exact e
          · exact depthOk_append.mpr ⟨hd,hz z hz1,he0,by rw [hD]; exact he1,trivial⟩
          · rw [List.length_append,hi]; rfl
          · rw [e1]; split <;> omega
          · rw [e1]; exact StIs.rfl
      · rintro σ H' ⟨s1,xs,ns,ch,o5,o6,hl2,hn,hd,hi,hd0,rfl⟩
        rw [List.length_map] at hi
        and_intros
        exact k ns xs l H' s1 hl2 hn hd (by omega)
    · refine ⟨_,rfl,c,rfl,⟨_,SqL.of (s0 _ _ hc)⟩,for_list (xs:=ms.map V.int) (fun i σ H'=>Same H H' ∧ ∃ (xs:List V) (ns:List Nd) (ch:Bool) (o5 o6:Option V),H' l = some (.lst xs) ∧ NodesAt H' xs ns ∧ depthOk 0 ns ∧ ns.length = i ∧ 0 ≤ deepAfter 0 ns ∧ StIs σ [some (.ref c),some (.ref m),some (.ref l),some (.int (deepAfter 0 ns)),some (.bl ch),o5,o6]) ⟨s0,[],[],_,none,none,upd_same,trivial,trivial,rfl,Int.le_refl _,StIs.rfl⟩ ?_ ?_ ?_⟩
      · rintro i σ H' _ ⟨s1,_⟩
        exact SqL.of (s1 _ _ hc)
      · rintro i x σ H' hx ⟨s1,xs,ns,ch,o5,o6,hl2,hn,hd,hi,hd0,rfl⟩
        have hi40:i < ms.length:=by have:=(List.getElem?_eq_some_iff.mp hx).1; rw [List.length_map] at this; exact this
        obtain ⟨j,_,rfl⟩:=List.mem_map.mp (List.mem_of_getElem? hx)
        generalize hD:deepAfter 0 ns = d at hd0 ⊢
        and_intros
        have m0:=Int.emod_nonneg (j / 14) (show d + 1 ≠ 0 by omega)
        have m1:=Int.emod_lt_of_pos (j / 14) (show 0 < d + 1 by omega)
        refine ⟨by omega,ite2 (fun _=>?_) fun _=>ite2 (fun _=>?_) fun _=>?_⟩
        · have he0:=hd0
          have he1:=Int.le_refl d
          refine ⟨.inl ⟨rfl,_,SqL.of hl2⟩,j,m,zs,rfl,s1 _ _ hm,hz0,fun z hz1=>⟨by decide,fun p hp=>?_⟩⟩
          have s2:=s1.upd (o:=.tup [.str z,.int d]) hp
          have npl:p ≠ l:=Ne.symm (ne_of_none hl2 hp)
          have l2:=(Same.put (o:=.tup [.str z,.int d]) hp) l _ hl2
          have sF:Same H (upd (upd H' p (.tup [.str z,.int d])) l (.lst (xs ++ [.ref p]))):=fun b o e=>by rw [upd_ne (ne_of_none e hl1)]; exact s2 b o e
          have tp:(upd (upd H' p (.tup [.str z,.int d])) l (.lst (xs ++ [.ref p]))) p = some (.tup [.str z,.int d]):=by rw [upd_ne npl]; exact upd_same
          have e1:deepAfter 0 (ns ++ [(z,d)]) = if 12 < d + 1 then 12 else d + 1:=by
            rw [deepAfter_append]
            show min (d + 1) 12 = _
            split <;> omega
          refine ⟨xs,l2,by rw [hn.length]; exact small1000 (by omega),sF,_,upd_same,ns ++ [(z,d)],?_,?_,?_,?_,ch,some (.int j),some (.int d),?_⟩
          · refine NodesAt.append (hn.tups fun b ys e=>?_) ⟨⟨p,rfl,tp⟩,trivial⟩
            rw [upd_ne (ne_of e hl2 (fun z=>nomatch z)),upd_ne (ne_of_none e hp)]
            exact e
          · exact depthOk_append.mpr ⟨hd,hz z hz1,he0,by rw [hD]; exact he1,trivial⟩
          · rw [List.length_append,hi]; rfl
          · rw [e1]; split <;> omega
          · rw [e1]; exact StIs.rfl
        · have he0:=hd0
          have he1:=Int.le_refl d
          refine ⟨.inl ⟨rfl,_,SqL.of hl2⟩,j,m,zs,rfl,s1 _ _ hm,hz0,fun z hz1=>⟨by decide,fun p hp=>?_⟩⟩
          have s2:=s1.upd (o:=.tup [.str z,.int d]) hp
          have npl:p ≠ l:=Ne.symm (ne_of_none hl2 hp)
          have l2:=(Same.put (o:=.tup [.str z,.int d]) hp) l _ hl2
          have sF:Same H (upd (upd H' p (.tup [.str z,.int d])) l (.lst (xs ++ [.ref p]))):=fun b o e=>by rw [upd_ne (ne_of_none e hl1)]; exact s2 b o e
          have tp:(upd (upd H' p (.tup [.str z,.int d])) l (.lst (xs ++ [.ref p]))) p = some (.tup [.str z,.int d]):=by rw [upd_ne npl]; exact upd_same
          have e1:deepAfter 0 (ns ++ [(z,d)]) = if 12 < d + 1 then 12 else d + 1:=by
            rw [deepAfter_append]
            show min (d + 1) 12 = _
            split <;> omega
          refine ⟨xs,l2,by rw [hn.length]; exact small1000 (by omega),sF,_,upd_same,ns ++ [(z,d)],?_,?_,?_,?_,ch,some (.int j),some (.int d),?_⟩
          · refine NodesAt.append (hn.tups fun b ys e=>?_) ⟨⟨p,rfl,tp⟩,trivial⟩
            rw [upd_ne (ne_of e hl2 (fun z=>nomatch z)),upd_ne (ne_of_none e hp)]
            exact e
          · exact depthOk_append.mpr ⟨hd,hz z hz1,he0,by rw [hD]; exact he1,trivial⟩
          · rw [List.length_append,hi]; rfl
          · rw [e1]; split <;> omega
          · rw [e1]; exact StIs.rfl
        · have he0:=m0
          have he1:j / 14 % (d + 1) ≤ d:=by omega
          refine ⟨.inl ⟨rfl,_,SqL.of hl2⟩,j,m,zs,rfl,s1 _ _ hm,hz0,fun z hz1=>⟨by decide,fun p hp=>?_⟩⟩
          have s2:=s1.upd (o:=.tup [.str z,.int (j / 14 % (d + 1))]) hp
          have npl:p ≠ l:=Ne.symm (ne_of_none hl2 hp)
          have l2:=(Same.put (o:=.tup [.str z,.int (j / 14 % (d + 1))]) hp) l _ hl2
          have sF:Same H (upd (upd H' p (.tup [.str z,.int (j / 14 % (d + 1))])) l (.lst (xs ++ [.ref p]))):=fun b o e=>by rw [upd_ne (ne_of_none e hl1)]; exact s2 b o e
          have tp:(upd (upd H' p (.tup [.str z,.int (j / 14 % (d + 1))])) l (.lst (xs ++ [.ref p]))) p = some (.tup [.str z,.int (j / 14 % (d + 1))]):=by rw [upd_ne npl]; exact upd_same
          have e1:deepAfter 0 (ns ++ [(z,(j / 14 % (d + 1)))]) = if 12 < (j / 14 % (d + 1)) + 1 then 12 else (j / 14 % (d + 1)) + 1:=by
            rw [deepAfter_append]
            show min ((j / 14 % (d + 1)) + 1) 12 = _
            split <;> omega
          refine ⟨xs,l2,by rw [hn.length]; exact small1000 (by omega),sF,_,upd_same,ns ++ [(z,(j / 14 % (d + 1)))],?_,?_,?_,?_,ch,some (.int j),some (.int (j / 14 % (d + 1))),?_⟩
          · refine NodesAt.append (hn.tups fun b ys e=>?_) ⟨⟨p,rfl,tp⟩,trivial⟩
            rw [upd_ne (ne_of e hl2 (fun z=>nomatch z)),upd_ne (ne_of_none e hp)]
            exact e
          · exact depthOk_append.mpr ⟨hd,hz z hz1,he0,by rw [hD]; exact he1,trivial⟩
          · rw [List.length_append,hi]; rfl
          · rw [e1]; split <;> omega
          · rw [e1]; exact StIs.rfl
      · rintro σ H' ⟨s1,xs,ns,ch,o5,o6,hl2,hn,hd,hi,hd0,rfl⟩
        rw [List.length_map] at hi
        and_intros
        exact k ns xs l H' s1 hl2 hn hd (by omega)
theorem ok__law_lines {f:Addr} {fd:FuncData} (D:Def K mg "_law_lines" s__law_lines ["_law_cells_here","_law_marks_here","_law_wide"] f fd) (T:Txt K mg ad) {f__law_pick:Addr} {fd__law_pick:FuncData} (G__law_pick:FnOk P w K mg base CX0 1 f__law_pick fd__law_pick ["_law_cell","_law_marks_here"] sp__law_pick) (D__law_pick:Def K mg "_law_pick" s__law_pick ["_law_cell","_law_marks_here"] f__law_pick fd__law_pick):FnOk P w K mg base CX0 2 f fd ["_law_cells_here","_law_marks_here","_law_wide"] sp__law_lines:=by
  refine D.F.ok sc__law_lines (fun vs H Q E h=>?_) (fun cdv A outer s H vs Q E hr h=>?_)
  · obtain ⟨c,m,ms,zs,w,rfl,_⟩:=h
    rfl
  · obtain ⟨c,m,ms,zs,w,rfl,hc,hm,hw,hl,hz0,hz,k⟩:=h
    refine ⟨_,(pss_cons (ps_set (i:=3) sc__law_lines.nd rfl (Or.inl rfl) (pe_lst pa_nil))
      (pss_cons (ps_for PassesOwn.never rfl (pi_range3 rfl T.range (pa_cons pe_int (pa_cons (pe_op op_add (pe_op op_sub (pe_callB call_lenL rfl T.len PySem.boot_len (pa_cons (pv 0) pa_nil)) (pv 2)) pe_int) (pa_cons (pe_callB (call_max2 rfl) rfl T.max (by decide +kernel) (pa_cons pe_int (pa_cons (pv 2) pa_nil))) pa_nil)))) (pg_name (i:=4) sc__law_lines.nd rfl (Or.inl rfl))
      (pss_one (ps_if (pt_cmpR op_lt (pe_callB call_lenL rfl T.len PySem.boot_len (pa_cons (pv 3) pa_nil)) pe_int (nomark _))
      (pss_one (ps_expr (pe_bm PySem.F.plainAttrs_list PySem.F.slot_list_append PySem.F.type_list_append mt_append (pv 3) (pa_cons (pe_comp (own:=["_law_cell"]) (cap:=["_law_marks_here"]) (ix:=[1]) rfl (show CompScope ["_law_cells_here","_law_marks_here","_law_wide","_law_lines_here","_law_k"] (defScope s__law_lines) _ ["_law_cell"] ["_law_marks_here"] [1] from ⟨rfl,by decide +kernel,by decide +kernel,by decide +kernel,by decide +kernel,by decide +kernel,by decide +kernel,rfl,by decide +kernel⟩) (pi_list (pe_slice sl_list (pv 0) (po_some (pv 4)) (po_some (pe_op op_add (pv 4) (pv 2))))) (fun C s₀ H₀ ex pn=>⟨pg_name (i:=0) (show (["_law_cell","_law_marks_here"]:List Str).Nodup by decide +kernel) rfl (Or.inl rfl),pifs_nil,(pe_call G__law_pick (hr.mono (by decide)) rfl D__law_pick.mg D__law_pick.F.kp D__law_pick.b .nil pass0 (pa_cons (pv 0) (pa_cons (pv 1) pa_nil)))⟩)) pa_nil))))
      pss_nil)))
      (pss_one (ps_ret (pv 3))))),?_⟩
    and_intros
    refine ⟨by decide,fun l hl1=>?_⟩
    have s0:=Same.put (o:=.lst []) hl1
    have lM:(ms.map V.int).length = ms.length:=List.length_map _
    refine ⟨_,rfl,c,_,rfl,SqL.of (s0 _ _ hc),_,rfl,_,_,rfl,rfl,_,_,rfl,rfl,_,rfl,1,w,rfl,_,_,rfl,⟨by omega,by omega,by split <;> omega,by split <;> omega⟩,fun n hn=>for_range3 (fun i σ H'=>Same H H' ∧ ∃ xs ls,H' l = some (.lst xs) ∧ RowsAt .lst H' xs ls ∧ NotIn l xs ∧ ls.length ≤ 12 ∧ (∀ x ∈ ls,lineOk w x) ∧ ∃ o,StIs σ [some (.ref c),some (.ref m),some (.int w),some (.ref l),o]) ⟨s0,[],[],upd_same,trivial,NotIn.nil,Nat.zero_le _,(fun _ z=>nomatch z),none,StIs.rfl⟩ ?_ ?_⟩
    · rintro i σ H' hi ⟨s1,xs,ls,hl2,hr1,hni,h12,hok,o,rfl⟩
      have hi2:=hn i hi
      have hk0:0 ≤ 0 + (i:Int) * (if (w:Int) > 1 then (w:Int) else 1):=by
        have:0 ≤ (i:Int) * (if (w:Int) > 1 then (w:Int) else 1):=Int.mul_nonneg (by omega) (by split <;> omega)
        omega
      have hkw:0 + (i:Int) * (if (w:Int) > 1 then (w:Int) else 1) + w ≤ ms.length:=by rw [lM] at hi2; omega
      generalize (0 + (i:Int) * (if (w:Int) > 1 then (w:Int) else 1)) = kx at hk0 hkw ⊢
      obtain ⟨kn,rfl⟩:=Int.eq_ofNat_of_zero_le hk0
      obtain ⟨cs,ecs,lcs⟩:=cut_len (ms:=ms) (a:=kn) (w:=w) (by omega)
      have lx:=hr1.length
      and_intros
      refine ⟨_,SqL.of hl2,ite2 (fun h=>⟨.inl ⟨rfl,_,SqL.of hl2⟩,?_⟩) fun h=>⟨s1,xs,hl2,ls,hr1,hni,h12,hok,_,StIs.rfl⟩⟩
      refine tcomp_listN (K:=K) (xs:=cs.map V.int) (fun a H1=>H' a = none ∧ H1 = upd H' a (.lst (cs.map V.int))) (fun R r=>?_) (fun a H1 ⟨ha,e⟩=>⟨fun i ys H2=>H2 = H1 ∧ ∃ ws:List Str,ys = ws.map V.str ∧ ws.length = i ∧ ∀ z ∈ ws,markS z = true,⟨rfl,[],rfl,rfl,fun _ z=>nomatch z⟩,?_,?_,?_⟩)
      · and_intros
        refine ⟨_,SqL.of (s1 _ _ hc),fun a ha=>?_⟩
        rw [ecs]
        exact ⟨⟨_,SqL.of upd_same⟩,r a _ ⟨ha,rfl⟩⟩
      · rintro j ys H2 _ ⟨rfl,_⟩
        rw [e]
        exact SqL.of upd_same
      · rintro j x ys H2 R hx ⟨rfl,ws,rfl,hwl,hws⟩ hR
        have hj:j < cs.length:=by have:=(List.getElem?_eq_some_iff.mp hx).1; rw [List.length_map] at this; exact this
        obtain ⟨q,_,rfl⟩:=List.mem_map.mp (List.mem_of_getElem? hx)
        simp only [tYes]
        and_intros
        refine ⟨q,m,zs,rfl,by rw [e]; exact (s1.upd ha) _ _ hm,hz0,fun z hz1=>⟨by rw [List.length_map,hwl]; exact small1000 (by omega),hR _ _ ⟨rfl,ws ++ [z],by rw [List.map_append]; rfl,by rw [List.length_append,hwl]; rfl,fun y hy=>?_⟩⟩⟩
        rcases List.mem_append.mp hy with h | h
        · exact hws y h
        · rw [List.mem_singleton.mp h]; exact hz z hz1
      · rintro ys H2 ⟨rfl,ws,rfl,hwl,hws⟩
        rw [List.length_map] at hwl
        refine ⟨by rw [List.length_map]; exact Nat.le_of_lt (small1000 (by omega)),fun D hD=>?_⟩
        have sA:Same H' H2:=by rw [e]; exact Same.put ha
        have sD:=sA.upd (o:=.lst (ws.map V.str)) hD
        have hl3:=sD _ _ hl2
        have nD:D ≠ l:=Ne.symm (ne_of_none (sA _ _ hl2) hD)
        refine ⟨_,hl3,small1000 (by omega),fun b o e=>?_,_,upd_same,ls ++ [ws.map V.str],?_,hni.add nD,?_,?_,_,StIs.rfl⟩
        · rw [upd_ne (ne_of_none e hl1)]; exact sD _ _ (s1 b o e)
        · exact ((hr1.same sD).updl hni).append ⟨⟨D,rfl,by rw [upd_ne nD]; exact upd_same⟩,trivial⟩
        · rw [List.length_append,List.length_singleton]; omega
        · intro x hx
          rcases List.mem_append.mp hx with h | h
          · exact hok x h
          · rw [List.mem_singleton.mp h]
            exact ⟨by rw [List.length_map]; omega,all_marks hws⟩
    · rintro σ H' ⟨s1,xs,ls,hl2,hr1,hni,h12,hok,o,rfl⟩
      and_intros
      exact k ls xs l H' s1 hl2 hr1 h12 ⟨w,hw,hok⟩
theorem ok__law_some {f:Addr} {fd:FuncData} (D:Def K mg "_law_some" s__law_some ["_law_cell","_law_many"] f fd) (T:Txt K mg ad) {f__law_mix:Addr} {fd__law_mix:FuncData} (G__law_mix:FnOk P w K mg base CX0 1 f__law_mix fd__law_mix ["_law_seed","_law_k"] sp__law_mix) (D__law_mix:Def K mg "_law_mix" s__law_mix ["_law_seed","_law_k"] f__law_mix fd__law_mix):FnOk P w K mg base CX0 2 f fd ["_law_cell","_law_many"] sp__law_some:=by
  refine D.F.ok sc__law_some (fun vs H Q E h=>?_) (fun cdv A outer s H vs Q E hr h=>?_)
  · obtain ⟨c,n,rfl,_⟩:=h
    rfl
  · obtain ⟨c,n,rfl,hn,k⟩:=h
    refine ⟨_,(pss_cons (ps_set (i:=2) sc__law_some.nd rfl (Or.inl rfl) (pe_lst pa_nil))
      (pss_cons (ps_set (i:=3) sc__law_some.nd rfl (Or.inl rfl) (pe_op op_fdiv (pv 0) pe_int))
      (pss_cons (ps_set (i:=4) sc__law_some.nd rfl (Or.inl rfl) (pe_op op_mod (pe_op op_fdiv (pv 0) pe_int) pe_int))
      (pss_cons (ps_for PassesOwn.never rfl (pi_range1 rfl T.range (pa_cons (pv 1) pa_nil)) (pg_name (i:=5) sc__law_some.nd rfl (Or.inl rfl))
      (pss_cons (ps_set (i:=6) sc__law_some.nd rfl (Or.inl rfl) (pe_cmpR op_eq (pe_op op_mod (pv 3) pe_int) pe_int (nomark _)))
      (pss_cons (ps_set (i:=3) sc__law_some.nd rfl (Or.inl rfl) (pe_op op_fdiv (pv 3) pe_int))
      (pss_cons (ps_if (pt_cmpR op_eq (pe_op op_mod (pv 0) pe_int) pe_int (nomark _))
      (pss_cons (ps_set (i:=6) sc__law_some.nd rfl (Or.inl rfl) (pe_cmpR op_gt (pe_op op_mod (pe_call G__law_mix (hr.mono (by decide)) rfl D__law_mix.mg D__law_mix.F.kp D__law_mix.b .nil pass0 (pa_cons (pe_op op_fdiv (pv 0) pe_int) (pa_cons (pv 5) pa_nil))) pe_int) pe_int (nomark _)))
      (pss_cons (ps_if (pt_cmpR op_eq (pv 4) pe_int (nomark _))
      (pss_one (ps_set (i:=6) sc__law_some.nd rfl (Or.inl rfl) (pe_cmpR op_eq (pe_op op_mod (pe_call G__law_mix (hr.mono (by decide)) rfl D__law_mix.mg D__law_mix.F.kp D__law_mix.b .nil pass0 (pa_cons (pe_op op_fdiv (pv 0) pe_int) (pa_cons (pv 5) pa_nil))) pe_int) pe_int (nomark _))))
      pss_nil)
      (pss_cons (ps_if (pt_cmpR op_eq (pv 4) pe_int (nomark _))
      (pss_one (ps_set (i:=6) sc__law_some.nd rfl (Or.inl rfl) (pe_cmpR op_ne (pv 5) (pe_op op_mod (pe_op op_fdiv (pv 0) pe_int) (pv 1)) (nomark _))))
      pss_nil)
      (pss_one (ps_if (pt_cmpR op_eq (pv 4) pe_int (nomark _))
      (pss_one (ps_set (i:=6) sc__law_some.nd rfl (Or.inl rfl) (pe_cmpR op_eq (pe_op op_mod (pe_op op_fdiv (pv 0) pe_int) pe_int) pe_int (nomark _))))
      pss_nil)))))
      pss_nil)
      (pss_one (ps_if (pt_val (pv 6))
      (pss_one (ps_expr (pe_bm PySem.F.plainAttrs_list PySem.F.slot_list_append PySem.F.type_list_append mt_append (pv 2) (pa_cons (pv 5) pa_nil))))
      pss_nil))))))
      (pss_one (ps_ret (pv 2))))))),?_⟩
    and_intros
    refine ⟨by decide,fun l hl=>⟨_,rfl,n,rfl,by omega,by omega,?_⟩⟩
    rw [Int.toNat_natCast]
    refine for_range (n:=n) (fun i σ H'=>∃ (ps:List Int) (rest:Int) (o5 o6:Option V),H' = upd H l (.lst (ps.map V.int)) ∧ placesOk 0 n ps ∧ lowAfter 0 ps ≤ i ∧ StIs σ [some (.int c),some (.int n),some (.ref l),some (.int rest),some (.int (c / 2 % 4)),o5,o6]) ⟨[],_,none,none,rfl,trivial,Int.le_refl _,StIs.rfl⟩ ?_ ?_
    · rintro i σ H' hi ⟨ps,rest,o5,o6,rfl,hok,hlo,rfl⟩
      and_intros
      have lps:=places_len hok (by omega)
      repeat' (first
        | refine ite2 (fun _=>?_) fun _=>?_
        | refine ⟨c / 8,0 + i,rfl,by omega,by omega,_,rfl,?_⟩
        | refine ⟨show (0:Int) < n by omega,?_⟩
        | exact ⟨.inl ⟨rfl,_,SqL.of upd_same⟩,_,upd_same,by rw [List.length_map]; exact small1000 (by omega),ps ++ [0 + (i:Int)],by rw [upd_upd,List.map_append]; rfl,placesOk_append.mpr ⟨hok,by omega,by omega,trivial⟩,by rw [lowAfter_append]; show (0 + (i:Int)) + 1 ≤ _; omega,_,_,_,StIs.rfl⟩
        | exact ⟨ps,rfl,hok,by omega,_,_,_,StIs.rfl⟩)
    · rintro σ H' ⟨ps,rest,o5,o6,rfl,hok,hlo,rfl⟩
      and_intros
      exact k ps l _ (Same.put hl) upd_same hok
theorem ok__law_table_by {f:Addr} {fd:FuncData} (D:Def K mg "_law_table_by" s__law_table_by ["_law_script","_law_begin","_law_marks_here"] f fd) (T:Txt K mg ad) {f__law_cell_at:Addr} {fd__law_cell_at:FuncData} (G__law_cell_at:FnOk P w K mg base CX0 1 f__law_cell_at fd__law_cell_at ["_law_script","_law_k"] (sp__law_cell_at K)) {f__law_pick:Addr} {fd__law_pick:FuncData} (G__law_pick:FnOk P w K mg base CX0 1 f__law_pick fd__law_pick ["_law_cell","_law_marks_here"] sp__law_pick) {f__law_lines:Addr} {fd__law_lines:FuncData} (G__law_lines:FnOk P w K mg base CX0 2 f__law_lines fd__law_lines ["_law_cells_here","_law_marks_here","_law_wide"] sp__law_lines) {f__law_mix:Addr} {fd__law_mix:FuncData} (G__law_mix:FnOk P w K mg base CX0 1 f__law_mix fd__law_mix ["_law_seed","_law_k"] sp__law_mix) (D__law_cell_at:Def K mg "_law_cell_at" s__law_cell_at ["_law_script","_law_k"] f__law_cell_at fd__law_cell_at) (D__law_pick:Def K mg "_law_pick" s__law_pick ["_law_cell","_law_marks_here"] f__law_pick fd__law_pick) (D__law_lines:Def K mg "_law_lines" s__law_lines ["_law_cells_here","_law_marks_here","_law_wide"] f__law_lines fd__law_lines) (D__law_mix:Def K mg "_law_mix" s__law_mix ["_law_seed","_law_k"] f__law_mix fd__law_mix):FnOk P w K mg base CX0 3 f fd ["_law_script","_law_begin","_law_marks_here"] (sp__law_table_by K):=by
  refine D.F.ok sc__law_table_by (fun vs H Q E h=>?_) (fun cdv A outer s H vs Q E hr h=>?_)
  · obtain ⟨a,m,ns,b,zs,rfl,_⟩:=h
    rfl
  · obtain ⟨a,m,ns,b,zs,rfl,hS,hl,hm,hz0,hz,k⟩:=h
    refine ⟨_,(pss_cons (ps_set (i:=3) sc__law_table_by.nd rfl (Or.inr rfl) (pe_call G__law_cell_at (hr.mono (by decide)) rfl D__law_cell_at.mg D__law_cell_at.F.kp D__law_cell_at.b .nil pass0 (pa_cons (pv 0) (pa_cons (pv 1) pa_nil))))
      (pss_cons (ps_if (pt_cmpR op_eq (pe_op op_mod (pv 3) pe_int) pe_int (nomark _))
      (pss_cons (ps_set (i:=4) sc__law_table_by.nd rfl (Or.inl rfl) (pe_lst pa_nil))
      (pss_cons (ps_set (i:=5) sc__law_table_by.nd rfl (Or.inl rfl) (pe_op op_fdiv (pv 3) pe_int))
      (pss_cons (ps_for PassesOwn.never rfl (pi_range1 rfl T.range (pa_cons (pe_op op_mod (pe_op op_fdiv (pv 3) pe_int) pe_int) pa_nil)) (pg_name (i:=6) sc__law_table_by.nd rfl (Or.inl rfl))
      (pss_cons (ps_set (i:=7) sc__law_table_by.nd rfl (Or.inl rfl) (pe_lst pa_nil))
      (pss_cons (ps_for PassesOwn.never rfl (pi_range1 rfl T.range (pa_cons (pe_op op_mod (pe_op op_fdiv (pv 3) pe_int) pe_int) pa_nil)) (pg_name (i:=8) sc__law_table_by.nd rfl (Or.inl rfl))
      (pss_cons (ps_expr (pe_bm PySem.F.plainAttrs_list PySem.F.slot_list_append PySem.F.type_list_append mt_append (pv 7) (pa_cons (pe_call G__law_pick (hr.mono (by decide)) rfl D__law_pick.mg D__law_pick.F.kp D__law_pick.b .nil pass0 (pa_cons (pe_op op_mod (pv 5) pe_int) (pa_cons (pv 2) pa_nil))) pa_nil)))
      (pss_one (ps_set (i:=5) sc__law_table_by.nd rfl (Or.inl rfl) (pe_op op_fdiv (pv 5) pe_int)))))
      (pss_one (ps_expr (pe_bm PySem.F.plainAttrs_list PySem.F.slot_list_append PySem.F.type_list_append mt_append (pv 4) (pa_cons (pv 7) pa_nil)))))))
      (pss_one (ps_ret (pv 4))))))
      pss_nil)
      (pss_cons (ps_set (i:=3) sc__law_table_by.nd rfl (Or.inr rfl) (pe_op op_fdiv (pv 3) pe_int))
      (pss_cons (ps_set (i:=9) sc__law_table_by.nd rfl (Or.inl rfl) (pe_op op_add pe_int (pe_op op_mod (pe_op op_fdiv (pv 3) pe_int) pe_int)))
      (pss_cons (ps_if (pt_cmpR op_eq (pe_op op_mod (pv 3) pe_int) pe_int (nomark _))
      (pss_cons (ps_set (i:=9) sc__law_table_by.nd rfl (Or.inl rfl) (pe_op op_add pe_int (pe_op op_mod (pe_op op_fdiv (pv 3) pe_int) pe_int)))
      (pss_one (ps_ret (pe_call G__law_lines (hr.mono (by decide)) rfl D__law_lines.mg D__law_lines.F.kp D__law_lines.b .nil pass0 (pa_cons (pe_comp (own:=["_law_k"]) (cap:=["_law_seed"]) (ix:=[3]) rfl (show CompScope ["_law_script","_law_begin","_law_marks_here","_law_seed","_law_lines_here","_law_rest","_law_k","_law_line","_law_j","_law_wide"] (defScope s__law_table_by) _ ["_law_k"] ["_law_seed"] [3] from ⟨rfl,by decide +kernel,by decide +kernel,by decide +kernel,by decide +kernel,by decide +kernel,by decide +kernel,rfl,by decide +kernel⟩) (pi_range1 rfl T.range (pa_cons (pe_op op_mul (pv 9) (pe_op op_mod (pe_op op_fdiv (pv 3) pe_int) pe_int)) pa_nil)) (fun C s₀ H₀ ex pn=>⟨pg_name (i:=0) (show (["_law_k","_law_seed"]:List Str).Nodup by decide +kernel) rfl (Or.inl rfl),pifs_nil,(pe_call G__law_mix (hr.mono (by decide)) rfl D__law_mix.mg D__law_mix.F.kp D__law_mix.b .nil pass0 (pa_cons (pe_op op_fdiv (pv 1) pe_int) (pa_cons (pv 0) pa_nil)))⟩)) (pa_cons (pv 2) (pa_cons (pv 9) pa_nil)))))))
      pss_nil)
      (pss_cons (ps_if (PW.pt (pw_and (pt_cmpR op_eq (pe_op op_mod (pv 3) pe_int) pe_int (nomark _)) (pw_and1 (pt_cmpR op_eq (pe_op op_mod (pe_op op_fdiv (pv 3) pe_int) pe_int) pe_int (nomark _)))))
      (pss_one (ps_ret (pe_comp (own:=["_law_k"]) (cap:=[]) (ix:=[]) rfl (show CompScope ["_law_script","_law_begin","_law_marks_here","_law_seed","_law_lines_here","_law_rest","_law_k","_law_line","_law_j","_law_wide"] (defScope s__law_table_by) _ ["_law_k"] [] [] from ⟨rfl,by decide +kernel,by decide +kernel,by decide +kernel,by decide +kernel,by decide +kernel,by decide +kernel,rfl,by decide +kernel⟩) (pi_range1 rfl T.range (pa_cons (pe_op op_mod (pe_op op_fdiv (pv 3) pe_int) pe_int) pa_nil)) (fun C s₀ H₀ ex pn=>⟨pg_name (i:=0) (show (["_law_k"]:List Str).Nodup by decide +kernel) rfl (Or.inl rfl),pifs_nil,(pe_lst pa_nil)⟩))))
      pss_nil)
      (pss_one (ps_ret (pe_call G__law_lines (hr.mono (by decide)) rfl D__law_lines.mg D__law_lines.F.kp D__law_lines.b .nil pass0 (pa_cons (pe_slice sl_list (pv 0) (po_some (pe_op op_add (pv 1) pe_int)) (po_some (pe_op op_add (pv 1) pe_int))) (pa_cons (pv 2) (pa_cons (pv 9) pa_nil)))))))))))),?_⟩
    refine tseq_open fun B hB=>?_
    and_intros
    refine ⟨a,ns,b,rfl,hS,?_⟩
    generalize cellF ns b = sd
    subst hB
    refine tseq_open fun B hB=>?_
    and_intros
    refine ite2 (fun _=>?_) fun _=>?_
    · refine ⟨by decide,fun l hl1=>?_⟩
      have s0:=Same.put (o:=.lst []) hl1
      have w0:=Int.emod_nonneg (sd / 10) (show (5:Int) ≠ 0 by decide)
      have w5:=Int.emod_lt_of_pos (sd / 10) (show (0:Int) < 5 by decide)
      have v0:=Int.emod_nonneg (sd / 2) (show (5:Int) ≠ 0 by decide)
      have v5:=Int.emod_lt_of_pos (sd / 2) (show (0:Int) < 5 by decide)
      refine ⟨_,rfl,_,_,rfl,rfl,⟨by decide,by decide⟩,_,_,rfl,rfl,by show (0:Int) < 5; decide,_,rfl,by omega,by omega,for_range (n:=(sd / 2 % 5).toNat) (fun i σ H'=>Same H H' ∧ ∃ (xs:List V) (ls:List (List V)) (rest:Int) (o6 o7 o8:Option V),H' l = some (.lst xs) ∧ RowsAt .lst H' xs ls ∧ NotIn l xs ∧ ls.length = i ∧ (∀ x ∈ ls,lineOk (sd / 10 % 5).toNat x) ∧ StIs σ [some (.ref a),some (.int b),some (.ref m),some (.int sd),some (.ref l),some (.int rest),o6,o7,o8,none]) ⟨s0,[],[],_,none,none,none,upd_same,trivial,NotIn.nil,rfl,(fun _ z=>nomatch z),StIs.rfl⟩ ?_ ?_⟩
      · rintro i σ H' hi ⟨s1,xs,ls,rest,o6,o7,o8,hl2,hr1,hni,hli,hok,rfl⟩
        have lx:=hr1.length
        refine tseq_open fun B hB=>?_
        and_intros
        refine ⟨by decide,fun q hq=>?_⟩
        have nq:q ≠ l:=Ne.symm (ne_of_none hl2 hq)
        subst hB
        refine tseq_open fun B hB=>?_
        refine ⟨_,rfl,_,_,rfl,rfl,⟨by decide,by decide⟩,_,_,rfl,rfl,by show (0:Int) < 5; decide,_,rfl,by omega,by omega,for_range (n:=(sd / 10 % 5).toNat) (fun j σ H2=>∃ (ws:List Str) (rest:Int) (o8:Option V),H2 = upd H' q (.lst (ws.map V.str)) ∧ ws.length = j ∧ (∀ z ∈ ws,markS z = true) ∧ StIs σ [some (.ref a),some (.int b),some (.ref m),some (.int sd),some (.ref l),some (.int rest),some (.int (0 + i)),some (.ref q),o8,none]) ⟨[],_,_,rfl,rfl,(fun _ z=>nomatch z),StIs.rfl⟩ ?_ ?_⟩
        · rintro j σ H2 hj ⟨ws,rest,o8,rfl,hwl,hws,rfl⟩
          and_intros
          refine ⟨.inl ⟨rfl,_,SqL.of upd_same⟩,_,m,zs,rfl,(Same.put hq) _ _ (s1 _ _ hm),hz0,fun z hz1=>⟨_,upd_same,by rw [List.length_map]; exact small1000 (by omega),ws ++ [z],by rw [upd_upd,List.map_append]; rfl,by rw [List.length_append,hwl]; rfl,fun y hy=>?_,_,_,StIs.rfl⟩⟩
          rcases List.mem_append.mp hy with h | h
          · exact hws y h
          · rw [List.mem_singleton.mp h]; exact hz z hz1
        · rintro σ H2 ⟨ws,rest,o8,rfl,hwl,hws,rfl⟩
          subst hB
          and_intros
          have sq:=Same.put (o:=.lst (ws.map V.str)) hq
          refine ⟨.inl ⟨rfl,_,SqL.of (sq _ _ hl2)⟩,xs,sq _ _ hl2,small1000 (by omega),fun b o e=>?_,_,upd_same,ls ++ [ws.map V.str],?_,hni.add nq,?_,?_,_,_,_,_,StIs.rfl⟩
          · rw [upd_ne (ne_of_none e hl1)]; exact sq _ _ (s1 b o e)
          · exact ((hr1.same sq).updl hni).append ⟨⟨q,rfl,by rw [upd_ne nq]; exact upd_same⟩,trivial⟩
          · rw [List.length_append,hli]; rfl
          · intro x hx
            rcases List.mem_append.mp hx with h | h
            · exact hok x h
            · rw [List.mem_singleton.mp h]
              exact ⟨by rw [List.length_map]; exact hwl,all_marks hws⟩
      · rintro σ H' ⟨s1,xs,ls,rest,o6,o7,o8,hl2,hr1,hni,hli,hok,rfl⟩
        and_intros
        exact k ls xs l H' s1 hl2 hr1 (by omega) ⟨_,by omega,hok⟩
    · subst hB
      refine tseq_open fun B hB=>?_
      and_intros
      subst hB
      refine tseq_open fun B hB=>?_
      and_intros
      generalize (sd / 2) = sd
      subst hB
      refine tseq_open fun B hB=>?_
      and_intros
      refine ite2 (fun _=>?_) fun _=>?_
      · obtain ⟨wn,hwn⟩:=Int.eq_ofNat_of_zero_le (show 0 ≤ 1 + sd / 5 % 12 by have:=Int.emod_nonneg (sd / 5) (show (12:Int) ≠ 0 by decide); omega)
        obtain ⟨un,hun⟩:=Int.eq_ofNat_of_zero_le (Int.emod_nonneg (sd / 60) (show (13:Int) ≠ 0 by decide))
        have hw13:=Int.emod_lt_of_pos (sd / 5) (show (0:Int) < 12 by decide)
        have hu13:=Int.emod_lt_of_pos (sd / 60) (show (0:Int) < 13 by decide)
        rw [hwn]
        have hwu:wn * un ≤ 12 * 12:=Nat.mul_le_mul (by omega) (by omega)
        have ewu:(wn:Int) * (un:Int) = ((wn * un:Nat):Int):=by rw [Int.natCast_mul]
        refine tcomp_range (lo:=0) (n:=wn * un) (H1:=H) (fun R r=>?_) (fun i ys H'=>H' = H ∧ ∃ ms:List Int,ys = ms.map V.int ∧ ms.length = i) ⟨rfl,[],rfl,rfl⟩ ?_ ?_
        · and_intros
          rw [hun,ewu]
          exact ⟨.inl ⟨by omega,by omega⟩,by omega,by omega,r⟩
        · rintro i ys H' R hi ⟨rfl,ms,rfl,hm'⟩ hR
          simp only [tYes]
          and_intros
          refine ⟨sd / 60,0 + i,rfl,by omega,by omega,?_,hR _ _ ⟨rfl,ms ++ [mixF (sd / 60) (0 + i)],by simp,by simp [hm']⟩⟩
          rw [List.length_map,hm']
          exact small1000 (by omega)
        · rintro ys H' ⟨rfl,ms,rfl,hm'⟩
          exact ⟨by rw [List.length_map,hm']; exact Nat.le_of_lt (small1000 (by omega)),fun l hl'=>⟨l,m,ms,zs,wn,rfl,upd_same,(Same.put hl') _ _ hm,by omega,by omega,hz0,hz,fun ls xs l2 H2 s2=>k ls xs l2 H2 ((Same.put hl').trans s2)⟩⟩
      · have nul:tComp ["_law_k"] [] (iRng1 (tCons (tOp (rI (fun x j=>0 < j) fun i j=>V.int (i % j)) (tOp (rI CDiv fun i j=>V.int (i / j)) (tVar 3) (tC (V.int 20))) (tC (V.int 5))) tNil)) (gName 0) tYes (tLst tNil) [some (V.ref a),some (V.int b),some (V.ref m),some (V.int sd),none,none,none,none,none,some (V.int (1 + sd / 5 % 4))] H Q:=by
          have h13:=Int.emod_lt_of_pos (sd / 20) (show (0:Int) < 5 by decide)
          have h00:=Int.emod_nonneg (sd / 20) (show (5:Int) ≠ 0 by decide)
          refine tcomp_range (lo:=0) (n:=(sd / 20 % 5).toNat) (H1:=H) (fun R r=>?_) (fun i ys H'=>Same H H' ∧ RowsAt .lst H' ys (List.replicate i [])) ⟨Same.refl H,trivial⟩ ?_ ?_
          · and_intros
            exact ⟨by omega,by omega,r⟩
          · rintro i ys H' R hi ⟨s1,h1⟩ hR
            simp only [tYes]
            and_intros
            have hy:ys.length = i:=by rw [h1.length,List.length_replicate]
            refine ⟨by decide,fun p hp=>⟨small1000 (by omega),hR _ _ ⟨s1.upd hp,?_⟩⟩⟩
            rw [List.replicate_succ']
            exact (h1.same (Same.put hp)).append ⟨⟨p,rfl,upd_same⟩,trivial⟩
          · rintro ys H' ⟨s1,h1⟩
            have hy:ys.length = (sd / 20 % 5).toNat:=by rw [h1.length,List.length_replicate]
            refine ⟨Nat.le_of_lt (small1000 (by omega)),fun D hD=>k _ ys D _ (s1.upd hD) upd_same (h1.same (Same.put hD)) (by rw [List.length_replicate]; omega) ⟨0,Nat.zero_le _,fun l hl'=>?_⟩⟩
            rw [List.eq_of_mem_replicate hl']
            exact ⟨rfl,rfl⟩
        subst hB
        and_intros
        have lin:∃ x,SqL K H a x ∧ ∀ p,H p = none → sp__law_lines [V.ref p,V.ref m,V.int (1 + sd / 5 % 4)] (upd H p (.lst (cutV x (some ((b:Int) + 1)) (some ((b:Int) + 13))))) Q E0:=by
          obtain ⟨wn,hwn⟩:=Int.eq_ofNat_of_zero_le (show 0 ≤ 1 + sd / 5 % 4 by have:=Int.emod_nonneg (sd / 5) (show (4:Int) ≠ 0 by decide); omega)
          have hw5:=Int.emod_lt_of_pos (sd / 5) (show (0:Int) < 4 by decide)
          rw [hwn]
          obtain ⟨ms,ems,lms⟩:=cut_some (ns:=ns) (lo:=some ((b:Int) + 1)) (hi:=some ((b:Int) + 13))
          refine ⟨_,hS,fun p hp=>?_⟩
          rw [ems]
          exact ⟨p,m,ms,zs,wn,rfl,upd_same,(Same.put hp) _ _ hm,by omega,by omega,hz0,hz,fun ls xs l2 H2 s2=>k ls xs l2 H2 ((Same.put hp).trans s2)⟩
        exact ite2 (fun _=>ite2 (fun _=>nul) fun _=>lin) fun _=>lin
theorem ok__law_thing {f:Addr} {fd:FuncData} (D:Def K mg "_law_thing" s__law_thing ["_law_kind","_law_script","_law_begin","_law_marks_here"] f fd) (T:Txt K mg ad) {f__law_cells:Addr} {fd__law_cells:FuncData} (G__law_cells:FnOk P w K mg base CX0 2 f__law_cells fd__law_cells ["_law_script","_law_begin","_law_seed","_law_many"] (sp__law_cells K)) {f__law_cell_at:Addr} {fd__law_cell_at:FuncData} (G__law_cell_at:FnOk P w K mg base CX0 1 f__law_cell_at fd__law_cell_at ["_law_script","_law_k"] (sp__law_cell_at K)) {f_Row_init:Addr} {fd_Row_init:FuncData} (G_Row_init:FnOk P w K mg base (CX1 P w) 3 f_Row_init fd_Row_init ["self","marks"] (sp_Row_init ad)) {f__law_pick:Addr} {fd__law_pick:FuncData} (G__law_pick:FnOk P w K mg base CX0 1 f__law_pick fd__law_pick ["_law_cell","_law_marks_here"] sp__law_pick) {f_Forest_init:Addr} {fd_Forest_init:FuncData} (G_Forest_init:FnOk P w K mg base (CX1 P w) 4 f_Forest_init fd_Forest_init ["self","nodes"] (sp_Forest_init ad)) {f__law_nodes:Addr} {fd__law_nodes:FuncData} (G__law_nodes:FnOk P w K mg base CX0 2 f__law_nodes fd__law_nodes ["_law_cells_here","_law_marks_here"] sp__law_nodes) {f_Table_init:Addr} {fd_Table_init:FuncData} (G_Table_init:FnOk P w K mg base (CX1 P w) 4 f_Table_init fd_Table_init ["self","lines"] (sp_Table_init ad)) {f__law_table_by:Addr} {fd__law_table_by:FuncData} (G__law_table_by:FnOk P w K mg base CX0 3 f__law_table_by fd__law_table_by ["_law_script","_law_begin","_law_marks_here"] (sp__law_table_by K)) (D__law_cells:Def K mg "_law_cells" s__law_cells ["_law_script","_law_begin","_law_seed","_law_many"] f__law_cells fd__law_cells) (D__law_cell_at:Def K mg "_law_cell_at" s__law_cell_at ["_law_script","_law_k"] f__law_cell_at fd__law_cell_at) (D__law_pick:Def K mg "_law_pick" s__law_pick ["_law_cell","_law_marks_here"] f__law_pick fd__law_pick) (D__law_nodes:Def K mg "_law_nodes" s__law_nodes ["_law_cells_here","_law_marks_here"] f__law_nodes fd__law_nodes) (D__law_table_by:Def K mg "_law_table_by" s__law_table_by ["_law_script","_law_begin","_law_marks_here"] f__law_table_by fd__law_table_by) (B_Row_init:Binds K fd_Row_init ["self","marks"] []) (B_Forest_init:Binds K fd_Forest_init ["self","nodes"] []) (B_Table_init:Binds K fd_Table_init ["self","lines"] []) (M_Row:Mk K ad.Row f_Row_init) (M_Forest:Mk K ad.Forest f_Forest_init) (M_Table:Mk K ad.Table f_Table_init):FnOk P w K mg base CX0 6 f fd ["_law_kind","_law_script","_law_begin","_law_marks_here"] (sp__law_thing K ad):=by
  refine D.F.ok sc__law_thing (fun vs H Q E h=>?_) (fun cdv A outer s H vs Q E hr h=>?_)
  · obtain ⟨kd,a,m,ns,b,zs,rfl,_⟩:=h
    rfl
  · obtain ⟨kd,a,m,ns,b,zs,rfl,hS,hl,hm,hz0,hz,k⟩:=h
    refine ⟨_,(pss_cons (ps_set (i:=4) sc__law_thing.nd rfl (Or.inl rfl) (pe_call G__law_cells (hr.mono (by decide)) rfl D__law_cells.mg D__law_cells.F.kp D__law_cells.b .nil pass0 (pa_cons (pv 1) (pa_cons (pe_op op_add (pv 2) pe_int) (pa_cons (pe_call G__law_cell_at (hr.mono (by decide)) rfl D__law_cell_at.mg D__law_cell_at.F.kp D__law_cell_at.b .nil pass0 (pa_cons (pv 1) (pa_cons (pv 2) pa_nil))) (pa_cons pe_int pa_nil))))))
      (pss_cons (ps_if (pt_cmpR op_eq (pv 0) pe_int (nomark _))
      (pss_one (ps_ret (pe_make M_Row G_Row_init (hr.mono (by decide)) rfl T.c_Row B_Row_init .nil passE (pa_cons (pe_comp (own:=["_law_cell"]) (cap:=["_law_marks_here"]) (ix:=[3]) rfl (show CompScope ["_law_kind","_law_script","_law_begin","_law_marks_here","_law_cells_here"] (defScope s__law_thing) _ ["_law_cell"] ["_law_marks_here"] [3] from ⟨rfl,by decide +kernel,by decide +kernel,by decide +kernel,by decide +kernel,by decide +kernel,by decide +kernel,rfl,by decide +kernel⟩) (pi_list (pv 4)) (fun C s₀ H₀ ex pn=>⟨pg_name (i:=0) (show (["_law_cell","_law_marks_here"]:List Str).Nodup by decide +kernel) rfl (Or.inl rfl),pifs_nil,(pe_call G__law_pick (hr.mono (by decide)) rfl D__law_pick.mg D__law_pick.F.kp D__law_pick.b .nil pass0 (pa_cons (pv 0) (pa_cons (pv 1) pa_nil)))⟩)) pa_nil))))
      pss_nil)
      (pss_cons (ps_if (pt_cmpR op_eq (pv 0) pe_int (nomark _))
      (pss_one (ps_ret (pe_make M_Forest G_Forest_init (hr.mono (by decide)) rfl T.c_Forest B_Forest_init .nil passE (pa_cons (pe_call G__law_nodes (hr.mono (by decide)) rfl D__law_nodes.mg D__law_nodes.F.kp D__law_nodes.b .nil pass0 (pa_cons (pv 4) (pa_cons (pv 3) pa_nil))) pa_nil))))
      pss_nil)
      (pss_one (ps_ret (pe_make M_Table G_Table_init (hr.mono (by decide)) rfl T.c_Table B_Table_init .nil passE (pa_cons (pe_call G__law_table_by (hr.mono (by decide)) rfl D__law_table_by.mg D__law_table_by.F.kp D__law_table_by.b .nil pass0 (pa_cons (pv 1) (pa_cons (pv 2) (pa_cons (pv 3) pa_nil)))) pa_nil))))))),?_⟩
    refine tseq_open fun B hB=>?_
    and_intros
    refine ⟨a,ns,b,rfl,hS,?_⟩
    refine ⟨a,ns,(b:Int) + 1,_,rfl,by omega,hS,fun ms l2 H2 hms s2 hl2=>?_⟩
    subst hB
    and_intros
    refine ite2 (fun _=>?_) fun _=>ite2 (fun _=>?_) fun _=>?_
    · refine tcomp_list (K:=K) (a:=l2) (xs:=ms.map V.int) (H1:=H2) (fun R rr=>⟨_,rfl,l2,rfl,⟨_,SqL.of hl2⟩,rr⟩) (fun i ys H'=>H' = H2 ∧ ys.length = i ∧ ys.all markV = true) ⟨rfl,rfl,rfl⟩ (fun i ys H' _ ⟨e,_⟩=>e ▸ SqL.of hl2) ?_ ?_
      · rintro i x ys H' R hx ⟨rfl,hy,hm1⟩ hR
        have hi:=(List.getElem?_eq_some_iff.mp hx).1
        rw [List.length_map] at hi
        obtain ⟨j,_,rfl⟩:=List.mem_map.mp (List.mem_of_getElem? hx)
        simp only [tYes]
        and_intros
        refine ⟨j,m,zs,rfl,s2 _ _ hm,hz0,fun z hz1=>⟨small1000 (by omega),hR _ _ ⟨rfl,by rw [List.length_append,hy]; rfl,?_⟩⟩⟩
        rw [List.all_append,hm1]
        show (true && (markS z && true)) = true
        rw [hz z hz1]
        rfl
      · rintro ys H' ⟨rfl,hy,hm1⟩
        rw [List.length_map] at hy
        refine ⟨Nat.le_of_lt (small1000 (by omega)),fun l hl' x dx hx hdx hne=>?_⟩
        have s3:=Same.put (o:=.lst ys) hl'
        have f3:(upd H' l (.lst ys)) l = some (.lst ys):=upd_same
        generalize (upd H' l (.lst ys)) = H3 at s3 f3 hx hdx ⊢
        have s67:Same H3 (upd (upd H3 dx (.own x)) x (.ins ad.Row dx [])):=(Same.put hdx).upd (by rw [upd_ne (Ne.symm hne)]; exact hx)
        refine ⟨x,dx,.ref l,rfl,upd_same,thg2_lst (s67 _ _ f3) (thg_mark hm1),fun a' xs' e h _ _ H8 hrow sb=>⟨rfl,?_⟩,fun hb=>absurd ⟨l,_,rfl,s67 _ _ f3,by omega,hm1⟩ hb⟩
        cases e
        rw [s67 _ _ f3] at h
        cases h
        exact k x (.row ys) H8 ((s2.trans s3).trans fun b o e=>sb b o (ne_of_none e hx) (s67 b o e)) hrow
    · refine ⟨l2,m,ms,zs,rfl,hl2,s2 _ _ hm,hms,hz0,hz,fun nd xs l3 H3 s3 hl3 hn3 hd3 hl40 x dx hx hdx hne=>?_⟩
      have hlen:=hn3.length
      have n8:∀ n ∈ nd,n.1.length ≤ 1000:=fun n h=>by have:=(mark_all (depthOk_all hd3 n h).1).2.1; omega
      have s67:Same H3 (upd (upd H3 dx (.own x)) x (.ins ad.Forest dx [])):=(Same.put hdx).upd (by rw [upd_ne (Ne.symm hne)]; exact hx)
      have hn7:=hn3.same s67
      refine ⟨x,dx,.ref l3,rfl,upd_same,thg4_lst (s67 _ _ hl3) (hn7.thg3 n8),fun a' xs' ns' e h _ hm' _ H8 hfor sb=>⟨rfl,?_⟩,fun hb=>absurd ⟨l3,_,_,rfl,s67 _ _ hl3,by omega,hn7,hd3⟩ hb⟩
      cases e
      rw [s67 _ _ hl3] at h
      cases h
      have:=hm'.uniq hn7
      subst this
      exact k x (.forest ns') H8 ((s2.trans s3).trans fun b o e=>sb b o (ne_of_none e hx) (s67 b o e)) ⟨hfor,hd3,hl40⟩
    · refine ⟨a,m,ns,b,zs,rfl,hS.same s2,hl,s2 _ _ hm,hz0,hz,fun ls xs l3 H3 s3 hl3 hr3 hls htb x dx hx hdx hne=>?_⟩
      have s67:Same H3 (upd (upd H3 dx (.own x)) x (.ins ad.Table dx [])):=(Same.put hdx).upd (by rw [upd_ne (Ne.symm hne)]; exact hx)
      have hr7:=hr3.same s67
      have hxl:xs.length ≤ 12:=by rw [hr3.length]; exact hls
      have hmk:∀ l ∈ ls,l.all markV = true:=fun l hl=>let ⟨_,_,h⟩:=htb; (h l hl).2
      refine ⟨x,dx,.ref l3,rfl,upd_same,⟨.lst (s67 _ _ hl3),fun a' xs' e h y hy=>?_⟩,fun a' xs' ls' e h _ hm' _ H8 htab sb=>⟨rfl,?_⟩,fun hb=>absurd ⟨l3,_,_,rfl,s67 _ _ hl3,hxl,hr7,htb⟩ hb⟩
      · cases e
        rw [s67 _ _ hl3] at h
        cases h
        exact hr7.thg2 hmk y hy
      cases e
      rw [s67 _ _ hl3] at h
      cases h
      have:=hm'.uniq hr7
      subst this
      exact k x (.table ls' (wideT ls')) H8 ((s2.trans s3).trans fun b o e=>sb b o (ne_of_none e hx) (s67 b o e)) htab
theorem ok__law_spots {f:Addr} {fd:FuncData} (D:Def K mg "_law_spots" s__law_spots ["_law_form"] f fd) (T:Txt K mg ad):FnOk P w K mg base CX0 1 f fd ["_law_form"] sp__law_spots:=by
  refine D.F.ok sc__law_spots (fun vs H Q E h=>?_) (fun cdv A outer s H vs Q E hr h=>?_)
  · obtain ⟨f,d,rfl,_⟩:=h
    rfl
  · obtain ⟨ff,d,rfl,hf,o,k⟩:=h
    refine ⟨_,(pss_cons (ps_if (pt_cmpR op_eq (pe_ix ix_tup (pv 0) pe_int (fun _ _=>rfl)) pe_str (nomark _))
      (pss_one (ps_ret (pe_comp (own:=["_law_k"]) (cap:=["_law_form"]) (ix:=[0]) rfl (show CompScope ["_law_form","_law_spots_here","_law_j","_law_k"] (defScope s__law_spots) _ ["_law_k"] ["_law_form"] [0] from ⟨rfl,by decide +kernel,by decide +kernel,by decide +kernel,by decide +kernel,by decide +kernel,by decide +kernel,rfl,by decide +kernel⟩) (pi_range1 rfl T.range (pa_cons (pe_callB call_lenT rfl T.len PySem.boot_len (pa_cons (pe_ix ix_tup (pv 0) pe_int (fun _ _=>rfl)) pa_nil)) pa_nil)) (fun C s₀ H₀ ex pn=>⟨pg_name (i:=0) (show (["_law_k","_law_form"]:List Str).Nodup by decide +kernel) rfl (Or.inl rfl),pifs_nil,(pe_tup (pa_cons (pe_ix (show IxR _ (rIxT K) from ix_tup) (pe_ix (show IxR _ (rIxT K) from ix_tup) (pv 1) pe_int (fun _ _=>rfl)) (pv 0) (fun _ _=>rfl)) (pa_cons pe_int (pa_cons (pv 0) pa_nil))))⟩))))
      pss_nil)
      (pss_cons (ps_if (pt_cmpR op_eq (pe_ix ix_tup (pv 0) pe_int (fun _ _=>rfl)) pe_str (nomark _))
      (pss_one (ps_ret (pe_comp (own:=["_law_k"]) (cap:=["_law_form"]) (ix:=[0]) rfl (show CompScope ["_law_form","_law_spots_here","_law_j","_law_k"] (defScope s__law_spots) _ ["_law_k"] ["_law_form"] [0] from ⟨rfl,by decide +kernel,by decide +kernel,by decide +kernel,by decide +kernel,by decide +kernel,by decide +kernel,rfl,by decide +kernel⟩) (pi_range1 rfl T.range (pa_cons (pe_callB call_lenT rfl T.len PySem.boot_len (pa_cons (pe_ix ix_tup (pv 0) pe_int (fun _ _=>rfl)) pa_nil)) pa_nil)) (fun C s₀ H₀ ex pn=>⟨pg_name (i:=0) (show (["_law_k","_law_form"]:List Str).Nodup by decide +kernel) rfl (Or.inl rfl),pifs_nil,(pe_tup (pa_cons (pe_ix (show IxR _ (rIxT K) from ix_tup) (pe_ix (show IxR _ (rIxT K) from ix_tup) (pe_ix (show IxR _ (rIxT K) from ix_tup) (pv 1) pe_int (fun _ _=>rfl)) (pv 0) (fun _ _=>rfl)) pe_int (fun _ _=>rfl)) (pa_cons (pe_ix (show IxR _ (rIxT K) from ix_tup) (pe_ix (show IxR _ (rIxT K) from ix_tup) (pe_ix (show IxR _ (rIxT K) from ix_tup) (pv 1) pe_int (fun _ _=>rfl)) (pv 0) (fun _ _=>rfl)) pe_int (fun _ _=>rfl)) (pa_cons (pv 0) pa_nil))))⟩))))
      pss_nil)
      (pss_cons (ps_set (i:=1) sc__law_spots.nd rfl (Or.inl rfl) (pe_lst pa_nil))
      (pss_cons (ps_for PassesOwn.never rfl (pi_range1 rfl T.range (pa_cons (pe_callB call_lenT rfl T.len PySem.boot_len (pa_cons (pe_ix ix_tup (pv 0) pe_int (fun _ _=>rfl)) pa_nil)) pa_nil)) (pg_name (i:=2) sc__law_spots.nd rfl (Or.inl rfl))
      (pss_one (ps_for PassesOwn.never rfl (pi_range1 rfl T.range (pa_cons (pe_callB call_lenT rfl T.len PySem.boot_len (pa_cons (pe_ix ix_tup (pe_ix ix_tup (pv 0) pe_int (fun _ _=>rfl)) (pv 2) (fun _ _=>rfl)) pa_nil)) pa_nil)) (pg_name (i:=3) sc__law_spots.nd rfl (Or.inl rfl))
      (pss_one (ps_expr (pe_bm PySem.F.plainAttrs_list PySem.F.slot_list_append PySem.F.type_list_append mt_append (pv 1) (pa_cons (pe_tup (pa_cons (pe_ix ix_tup (pe_ix ix_tup (pe_ix ix_tup (pv 0) pe_int (fun _ _=>rfl)) (pv 2) (fun _ _=>rfl)) (pv 3) (fun _ _=>rfl)) (pa_cons (pv 2) (pa_cons (pv 3) pa_nil)))) pa_nil)))))))
      (pss_one (ps_ret (pv 1))))))),?_⟩
    refine tseq_open fun B hB=>?_
    and_intros
    cases d with
    | row xs =>
      obtain ⟨t,h1,h2⟩:=hf
      have hx40:=o.2
      refine ⟨_,SqT.of h1,_,rfl,rfl,?_⟩
      rw [if_pos rfl]
      refine tcomp_range (lo:=0) (n:=xs.length) (H1:=H) (fun R r=>⟨_,rfl,ff,_,_,.ref t,rfl,rfl,SqT.of h1,rfl,t,_,rfl,h2.sq,_,rfl,by omega,by omega,r⟩) (fun i ys H'=>Same H H' ∧ RowsAt HO.tup H' ys (((spotsS (.row xs)).take i).map spotV)) ⟨Same.refl _,trivial⟩ ?_ ?_
      · rintro i zs H' R hi ⟨s1,hz⟩ hR
        have hx:xs[i]? = some xs[i]:=List.getElem?_eq_getElem hi
        obtain ⟨z,ez⟩:=mark_str (List.all_eq_true.mp o.1 _ (List.mem_of_getElem? hx))
        rw [ez] at hx
        have lz:=hz.length
        rw [List.length_map,List.length_take,spots_row_len] at lz
        and_intros
        refine tYes_in ?_
        refine ⟨_,SqT.of (s1 _ _ h1),_,rfl,t,rfl,xs,SqT.same s1 h2.sq,.str z,by rw [Int.zero_add]; exact atI_nat hx,by decide,fun p hp=>⟨small1000 (by omega),hR _ _ ⟨s1.upd hp,?_⟩⟩⟩
        rw [take_snoc (spots_row hx),Int.zero_add]
        exact rows_snoc hz hp
      · rintro zs H' ⟨s1,hz⟩
        have lz:=hz.length
        rw [List.length_map,List.length_take,spots_row_len] at lz
        refine ⟨Nat.le_of_lt (small1000 (by omega)),fun D hD=>k D _ (s1.upd hD) ⟨zs,upd_same,?_⟩⟩
        rw [List.take_of_length_le (by rw [spots_row_len]; exact Nat.le_refl _)] at hz
        exact hz.same (Same.put hD)
    | forest ns =>
      obtain ⟨t,ys,h1,h2,h3⟩:=hf
      refine ⟨_,SqT.of h1,_,rfl,rfl,?_⟩
      rw [if_neg (by decide +kernel)]
      subst hB
      refine tseq_open fun B hB=>?_
      and_intros
      refine ⟨_,SqT.of h1,_,rfl,rfl,?_⟩
      rw [if_pos rfl]
      have hlen:=h3.length
      have hn40:=o.2
      refine tcomp_range (lo:=0) (n:=ns.length) (H1:=H) (fun R r=>⟨_,rfl,ff,_,_,.ref t,rfl,rfl,SqT.of h1,rfl,t,_,rfl,SqT.of h2,_,rfl,by omega,by omega,(by rw [hlen]; exact r)⟩) (fun i ys H'=>Same H H' ∧ RowsAt HO.tup H' ys (((spotsS (.forest ns)).take i).map spotV)) ⟨Same.refl _,trivial⟩ ?_ ?_
      · rintro i zs H' R hi ⟨s1,hz⟩ hR
        have hlt:i < ys.length:=by omega
        obtain ⟨n,en,tt,ex,ht⟩:=h3.get (List.getElem?_eq_getElem hlt)
        have eA:atI ys (0 + (i:Int)) = some (.ref tt):=by rw [Int.zero_add,← ex]; exact atI_nat (List.getElem?_eq_getElem hlt)
        have lz:=hz.length
        rw [List.length_map,List.length_take,spots_for_len] at lz
        and_intros
        refine tYes_in ?_
        refine ⟨_,SqT.of (s1 _ _ h1),_,rfl,t,rfl,ys,SqT.of (s1 _ _ h2),_,eA,tt,rfl,_,SqT.of (s1 _ _ ht),_,rfl,_,SqT.of (s1 _ _ h1),_,rfl,t,rfl,ys,SqT.of (s1 _ _ h2),_,eA,tt,rfl,_,SqT.of (s1 _ _ ht),_,rfl,by decide,fun p hp=>⟨small1000 (by omega),hR _ _ ⟨s1.upd hp,?_⟩⟩⟩
        rw [take_snoc (spots_for en),Int.zero_add]
        exact rows_snoc hz hp
      · rintro zs H' ⟨s1,hz⟩
        have lz:=hz.length
        rw [List.length_map,List.length_take,spots_for_len] at lz
        refine ⟨Nat.le_of_lt (small1000 (by omega)),fun D hD=>k D _ (s1.upd hD) ⟨zs,upd_same,?_⟩⟩
        rw [List.take_of_length_le (by rw [spots_for_len]; exact Nat.le_refl _)] at hz
        exact hz.same (Same.put hD)
    | table ls w =>
      obtain ⟨t,ts,h1,h2,h3⟩:=hf
      have hlen:=h3.length
      obtain ⟨o1,o2,o3⟩:=id o
      refine ⟨_,SqT.of h1,_,rfl,rfl,?_⟩
      rw [if_neg (by decide +kernel)]
      subst hB
      refine tseq_open fun B hB=>?_
      and_intros
      refine ⟨_,SqT.of h1,_,rfl,rfl,?_⟩
      rw [if_neg (by decide +kernel)]
      subst hB
      refine tseq_open fun B hB=>?_
      and_intros
      refine ⟨by decide,fun l hl0=>?_⟩
      subst hB
      refine tseq_open fun B hB=>?_
      and_intros
      refine (show iRng1 _ _ _ _ from ?_)
      have s0:=Same.put (o:=.lst []) hl0
      have f0:(upd H l (.lst [])) l = some (.lst []):=upd_same
      generalize (upd H l (.lst [])) = H0 at s0 f0 ⊢
      refine split_it (fun J H1=>H1 = H0 ∧ J = Itr 0 ls.length) (fun G' hG=>?_) ?_
      · and_intros
        have:=hG _ _ ⟨rfl,rfl⟩
        refine ⟨_,SqT.of (s0 _ _ h1),_,rfl,t,rfl,ts,SqT.of (s0 _ _ h2),by omega,by omega,?_⟩
        rw [hlen]
        exact this
      rintro _ H1 ⟨hH1,rfl⟩
      subst hH1
      refine for_range (n:=ls.length) (fun i σ H'=>Same H H' ∧ (∃ zs,H' l = some (.lst zs) ∧ RowsAt HO.tup H' zs ((spotsS (.table (ls.take i) w)).map spotV)) ∧ ∃ o2 o3:Option V,StIs σ [some (.ref ff),some (.ref l),o2,o3]) ⟨s0,⟨[],f0,trivial⟩,none,none,StIs.rfl⟩ ?_ ?_
      · rintro i σ H' hi ⟨s1,⟨zs,hz1,hz2⟩,p2,p3,rfl⟩
        and_intros
        refine (show iRng1 _ _ _ _ from ?_)
        have hti:i < ts.length:=by omega
        obtain ⟨li,el,tt,ex,ht⟩:=h3.get (List.getElem?_eq_getElem hti)
        have eA:atI ts (0 + (i:Int)) = some (.ref tt):=by rw [Int.zero_add,← ex]; exact atI_nat (List.getElem?_eq_getElem hti)
        have hli:=o3 li (List.mem_of_getElem? el)
        refine split_it (fun J H1=>H1 = H' ∧ J = Itr 0 li.length) (fun G' hG=>?_) ?_
        · and_intros
          exact ⟨_,SqT.of (s1 _ _ h1),_,rfl,t,rfl,ts,SqT.of (s1 _ _ h2),_,eA,tt,rfl,li,SqT.of (s1 _ _ ht),by have:=hli.1; omega,by have:=hli.1; omega,hG _ _ ⟨rfl,rfl⟩⟩
        rintro _ H2 ⟨hH2,rfl⟩
        subst hH2
        refine for_range (n:=li.length) (fun j σ H'=>Same H H' ∧ (∃ zs,H' l = some (.lst zs) ∧ RowsAt HO.tup H' zs ((spotsS (.table (ls.take i) w) ++ lineS i (li.take j)).map spotV)) ∧ ∃ o3:Option V,StIs σ [some (.ref ff),some (.ref l),some (.int (0 + (i:Int))),o3]) ⟨s1,⟨zs,hz1,by rw [show lineS i (li.take 0) = [] from rfl,List.append_nil]; exact hz2⟩,p3,StIs.rfl⟩ ?_ ?_
        · rintro j σ H' hj ⟨s2,⟨us,hu1,hu2⟩,p4,rfl⟩
          have hlj:li[j]? = some li[j]:=List.getElem?_eq_getElem hj
          obtain ⟨z,ez⟩:=mark_str (List.all_eq_true.mp hli.2 _ (List.mem_of_getElem? hlj))
          rw [ez] at hlj
          have lu:=hu2.length
          rw [List.length_map,List.length_append,line_len,List.length_take,spots_tab_len,flat_le fun m hm=>o3 m (List.mem_of_mem_take hm),List.length_take] at lu
          have lu2:min i ls.length * w ≤ 12 * 12:=Nat.mul_le_mul (by omega) o1
          have:=hli.1
          and_intros
          refine ⟨.inl ⟨rfl,_,SqL.of hu1⟩,_,SqT.of (s2 _ _ h1),_,rfl,t,rfl,ts,SqT.of (s2 _ _ h2),_,eA,tt,rfl,li,SqT.of (s2 _ _ ht),_,by rw [Int.zero_add]; exact atI_nat hlj,by decide,fun p hp=>⟨us,(Same.put hp) _ _ hu1,small1000 (by omega),?_⟩⟩
          rw [Int.zero_add,Int.zero_add]
          have hl':(upd H' p (.tup [.str z,.int (i:Int),.int (j:Int)])) l = some (.lst us):=(Same.put hp) _ _ hu1
          have rr:=rows_snoc (r:=[.str z,.int (i:Int),.int (j:Int)]) hu2 hp
          refine ⟨fun b o e=>?_,⟨_,upd_same,?_⟩,_,StIs.rfl⟩
          · rw [upd_ne (ne_of_none e hl0)]
            exact (s2.upd hp) _ _ e
          · rw [line_snoc hlj,← List.append_assoc,List.map_append (l₂:=[_])]
            refine RowsAt.keep (fun b ys e=>?_) rr
            by_cases hb:b = l
            · rw [hb,hl'] at e
              cases e
            · rw [upd_ne hb]
              exact e
        · rintro σ H' ⟨s2,⟨us,hu1,hu2⟩,p4,rfl⟩
          and_intros
          rw [List.take_length,← spots_tab_snoc el] at hu2
          exact ⟨s2,⟨us,hu1,hu2⟩,_,_,StIs.rfl⟩
      · rintro σ H' ⟨s1,⟨zs,hz1,hz2⟩,p2,p3,rfl⟩
        dsimp only
        subst hB
        and_intros
        rw [List.take_length] at hz2
        exact k l H' s1 ⟨zs,hz1,hz2⟩
theorem ok__law_above {f:Addr} {fd:FuncData} (D:Def K mg "_law_above" s__law_above ["_law_spots_here","_law_early","_law_late"] f fd) (T:Txt K mg ad):FnOk P w K mg base CX0 1 f fd ["_law_spots_here","_law_early","_law_late"] sp__law_above:=by
  refine D.F.ok sc__law_above (fun vs H Q E h=>?_) (fun cdv A outer s H vs Q E hr h=>?_)
  · obtain ⟨l,sp,e,n,rfl,_⟩:=h
    rfl
  · obtain ⟨l,sp,e,n,rfl,⟨ts,hl,hr1⟩,he,hn,k⟩:=h
    refine ⟨_,(pss_cons (ps_set (i:=3) sc__law_above.nd rfl (Or.inl rfl) (pv 2))
      (pss_cons (ps_set (i:=4) sc__law_above.nd rfl (Or.inl rfl) (pe_ix ix_tup (pe_ix ix_list (pv 0) (pv 2) (fun _ _=>rfl)) pe_int (fun _ _=>rfl)))
      (pss_cons (ps_while PassesOwn.never (pt_cmpR op_gt (pv 3) (pv 1) (nomark _))
      (pss_cons (ps_set (i:=3) sc__law_above.nd rfl (Or.inl rfl) (pe_op op_sub (pv 3) pe_int))
      (pss_one (ps_if (pt_cmpR op_lt (pe_ix ix_tup (pe_ix ix_list (pv 0) (pv 3) (fun _ _=>rfl)) pe_int (fun _ _=>rfl)) (pv 4) (nomark _))
      (pss_cons (ps_set (i:=4) sc__law_above.nd rfl (Or.inl rfl) (pe_ix ix_tup (pe_ix ix_list (pv 0) (pv 3) (fun _ _=>rfl)) pe_int (fun _ _=>rfl)))
      (pss_one (ps_if (pt_cmpR op_eq (pv 3) (pv 1) (nomark _))
      (pss_one (ps_ret pe_bl))
      pss_nil)))
      pss_nil))))
      (pss_one (ps_ret pe_bl))))),?_⟩
    refine tseq_open fun B hB=>?_
    and_intros
    subst hB
    refine tseq_open fun B hB=>?_
    and_intros
    obtain ⟨tn,an,htn⟩:=spots_get hr1 hn
    refine ⟨ts,SqL.of hl,_,an,tn,rfl,_,SqT.of htn,_,rfl,?_⟩
    subst hB
    refine tseq_open fun B hB=>?_
    and_intros
    refine ⟨fun m σ H'=>H' = H ∧ ∃ dep:Int,e + m ≤ n ∧ minOk sp e n (e + m) dep ∧ StIs σ [some (.ref l),some (.int (e:Nat)),some (.int (n:Nat)),some (.int ((e + m:Nat):Int)),some (.int dep)],⟨n - e,rfl,depS sp n,by omega,by rw [show e + (n - e) = n by omega]; exact minOk_start he,by rw [show e + (n - e) = n by omega]; exact StIs.rfl⟩,?_⟩
    rintro m σ H' ⟨rfl,dep,han,hm,rfl⟩
    and_intros
    refine ite2 (fun hgt=>?_) fun hge=>?_
    · have ha:0 < m:=by omega
      refine ⟨fun σ' H1=>H1 = H' ∧ ∃ dep':Int,e + (m - 1) ≤ n ∧ minOk sp e n (e + (m - 1)) dep' ∧ StIs σ' [some (.ref l),some (.int (e:Nat)),some (.int (n:Nat)),some (.int ((e + (m - 1):Nat):Int)),some (.int dep')],fun σ' H1 ⟨b1,dep',b2,b3,b4⟩=>⟨m - 1,by omega,b1,b2,dep',b3,b4⟩,?_⟩
      and_intros
      rw [show ((e + m:Nat):Int) - 1 = ((e + (m - 1):Nat):Int) by omega]
      obtain ⟨t1,a1,ht1⟩:=spots_get hr1 (i:=e + (m - 1)) (by omega)
      refine ⟨ts,SqL.of hl,_,a1,t1,rfl,_,SqT.of ht1,_,rfl,_,rfl,?_⟩
      obtain ⟨m1,j0,m2,m3,m4⟩:=hm.1 (by omega)
      refine ite2 (fun hlt=>⟨ts,SqL.of hl,_,a1,t1,rfl,_,SqT.of ht1,_,rfl,ite2 (fun hq=>?_) fun hq=>⟨by omega,depS sp (e + (m - 1)),⟨fun _=>⟨fun j h1 h2=>?_,_,Nat.le_refl _,by omega,rfl⟩,fun q=>by omega⟩,StIs.rfl⟩⟩) fun hge=>⟨by omega,dep,⟨fun _=>⟨fun j h1 h2=>?_,j0,by omega,m3,m4⟩,fun q=>Bool.eq_false_iff.mpr fun h=>?_⟩,StIs.rfl⟩
      · have hq':e + (m - 1) = e:=by omega
        rw [hq'] at hlt
        rw [above_iff.mpr fun j h1 h2=>by have:=m1 j (by omega) h2; omega] at k
        exact k
      · by_cases hj:j = e + (m - 1)
        · rw [hj]; exact Int.le_refl _
        · have:=m1 j (by omega) h2; omega
      · by_cases hj:j = e + (m - 1)
        · rw [hj]; omega
        · exact m1 j (by omega) h2
      · have:=above_iff.mp h j0 (by omega) m3
        rw [q] at hge
        omega
    · subst hB
      and_intros
      rw [hm.2 (by omega)] at k
      exact k
theorem ok__law_pair {f:Addr} {fd:FuncData} (D:Def K mg "_law_pair" s__law_pair ["_law_kind","_law_spots_here","_law_early","_law_late"] f fd) (T:Txt K mg ad) {f__law_above:Addr} {fd__law_above:FuncData} (G__law_above:FnOk P w K mg base CX0 1 f__law_above fd__law_above ["_law_spots_here","_law_early","_law_late"] sp__law_above) (D__law_above:Def K mg "_law_above" s__law_above ["_law_spots_here","_law_early","_law_late"] f__law_above fd__law_above):FnOk P w K mg base CX0 2 f fd ["_law_kind","_law_spots_here","_law_early","_law_late"] sp__law_pair:=by
  refine D.F.ok sc__law_pair (fun vs H Q E h=>?_) (fun cdv A outer s H vs Q E hr h=>?_)
  · obtain ⟨l,d,e,n,rfl,_⟩:=h
    rfl
  · obtain ⟨l,d,e,n,rfl,⟨ts,hl,hr1⟩,he,hn,hsz,k⟩:=h
    refine ⟨_,(pss_cons (ps_set (i:=4) sc__law_pair.nd rfl (Or.inl rfl) (pe_ix ix_list (pv 1) (pv 2) (fun _ _=>rfl)))
      (pss_cons (ps_set (i:=5) sc__law_pair.nd rfl (Or.inl rfl) (pe_ix ix_list (pv 1) (pv 3) (fun _ _=>rfl)))
      (pss_cons (ps_if (pt_cmpR op_eq (pv 0) pe_str (nomark _))
      (pss_one (ps_ret (pe_tup (pa_cons pe_bl (pa_cons (pe_cmpR op_eq (pe_ix ix_tup (pv 5) pe_int (fun _ _=>rfl)) (pe_op op_add (pe_ix ix_tup (pv 4) pe_int (fun _ _=>rfl)) pe_int) (nomark _)) pa_nil)))))
      pss_nil)
      (pss_cons (ps_if (pt_cmpR op_eq (pv 0) pe_str (nomark _))
      (pss_one (ps_ret (pe_tup (pa_cons (pe_cmpR op_eq (pe_ix ix_tup (pv 4) pe_int (fun _ _=>rfl)) (pe_ix ix_tup (pv 5) pe_int (fun _ _=>rfl)) (nomark _)) (pa_cons (pe_and (pe_cmpR op_eq (pe_ix ix_tup (pv 4) pe_int (fun _ _=>rfl)) (pe_ix ix_tup (pv 5) pe_int (fun _ _=>rfl)) (nomark _)) (pe_one (pe_cmpR op_eq (pe_ix ix_tup (pv 5) pe_int (fun _ _=>rfl)) (pe_op op_add (pe_ix ix_tup (pv 4) pe_int (fun _ _=>rfl)) pe_int) (nomark _)))) pa_nil)))))
      pss_nil)
      (pss_cons (ps_set (i:=6) sc__law_pair.nd rfl (Or.inl rfl) (pe_cmpR op_eq (pe_ix ix_tup (pv 4) pe_int (fun _ _=>rfl)) (pe_ix ix_tup (pv 5) pe_int (fun _ _=>rfl)) (nomark _)))
      (pss_cons (ps_for PassesOwn.never rfl (pi_range2 rfl T.range (pa_cons (pe_op op_add (pv 2) pe_int) (pa_cons (pv 3) pa_nil))) (pg_name (i:=7) sc__law_pair.nd rfl (Or.inl rfl))
      (pss_one (ps_if (pt_cmpR op_le (pe_ix ix_tup (pe_ix ix_list (pv 1) (pv 7) (fun _ _=>rfl)) pe_int (fun _ _=>rfl)) (pe_ix ix_tup (pv 4) pe_int (fun _ _=>rfl)) (nomark _))
      (pss_one (ps_set (i:=6) sc__law_pair.nd rfl (Or.inl rfl) pe_bl))
      pss_nil)))
      (pss_one (ps_ret (pe_tup (pa_cons (pe_call G__law_above (hr.mono (by decide)) rfl D__law_above.mg D__law_above.F.kp D__law_above.b .nil pass0 (pa_cons (pv 1) (pa_cons (pv 2) (pa_cons (pv 3) pa_nil)))) (pa_cons (pv 6) pa_nil))))))))))),?_⟩
    obtain ⟨te,ae,hte⟩:=spots_get hr1 (by omega:e < _)
    obtain ⟨tn,an,htn⟩:=spots_get hr1 hn
    refine tseq_open fun B hB=>?_
    and_intros
    refine ⟨ts,SqL.of hl,_,ae,?_⟩
    subst hB
    refine tseq_open fun B hB=>?_
    and_intros
    refine ⟨ts,SqL.of hl,_,an,?_⟩
    subst hB
    refine tseq_open fun B hB=>?_
    cases d with
    | row xs =>
      simp only [kindD]
      and_intros
      refine ⟨_,SqT.of htn,_,rfl,_,SqT.of hte,_,rfl,_,rfl,rfl,by decide,fun p hp=>?_⟩
      rw [decide_int]
      exact k p hp
    | table ls w =>
      simp only [kindD]
      and_intros
      rw [if_neg (by decide +kernel)]
      subst hB
      refine tseq_open fun B hB=>?_
      and_intros
      refine ⟨_,SqT.of hte,_,rfl,_,SqT.of htn,_,rfl,rfl,_,SqT.of hte,_,rfl,_,SqT.of htn,_,rfl,rfl,ite2 (fun hd=>⟨_,SqT.of htn,_,rfl,_,SqT.of hte,_,rfl,_,rfl,rfl,by decide,fun p hp=>?_⟩) fun hd=>⟨by decide,fun p hp=>?_⟩⟩
      · have:=k p hp
        rw [besT,decide_eq_true (V.int.inj hd),Bool.true_and] at this
        rw [decide_int,decide_int]
        exact this
      · have:=k p hp
        rw [besT,decide_eq_false (fun h=>hd (congrArg V.int h)),Bool.false_and] at this
        rw [decide_int]
        exact this
    | forest ns =>
      simp only [kindD]
      and_intros
      rw [if_neg (by decide +kernel)]
      subst hB
      refine tseq_open fun B hB=>?_
      and_intros
      rw [if_neg (by decide +kernel)]
      subst hB
      refine tseq_open fun B hB=>?_
      and_intros
      refine ⟨_,SqT.of hte,_,rfl,_,SqT.of htn,_,rfl,rfl,?_⟩
      rw [decide_int]
      subst hB
      refine tseq_open fun B hB=>?_
      and_intros
      unfold tFor
      refine split_it (fun J H1=>H1 = H ∧ J = Itr ((e:Int) + 1) (n - (e + 1))) (fun G' hG=>?_) ?_
      · and_intros
        have:=hG _ _ ⟨rfl,rfl⟩
        rw [show n - (e + 1) = ((n:Int) - ((e:Int) + 1)).toNat by omega] at this
        refine ⟨by omega,by omega,by omega,by omega,this⟩
      rintro _ H1 ⟨hH1,rfl⟩
      subst hH1
      refine for_range (n:=n - (e + 1)) (fun i σ H'=>H' = H1 ∧ ∃ o:Option V,StIs σ [some (.str "forest"),some (.ref l),some (.int (e:Nat)),some (.int (n:Nat)),some (.ref te),some (.ref tn),some (.bl (decide (depS (spotsS (.forest ns)) e = depS (spotsS (.forest ns)) n) && (List.range i).all fun j=>decide (depS (spotsS (.forest ns)) e < depS (spotsS (.forest ns)) (e + 1 + j)))),o]) ⟨rfl,none,by rw [List.range_zero,List.all_nil,Bool.and_true]; exact StIs.rfl⟩ ?_ ?_
      · rintro i σ H' hi ⟨rfl,o,rfl⟩
        rw [show (e:Int) + 1 + (i:Int) = ((e + 1 + i:Nat):Int) by omega]
        obtain ⟨tk,ak,htk⟩:=spots_get hr1 (i:=e + 1 + i) (by omega)
        and_intros
        refine ⟨_,SqL.of hl,_,ak,tk,rfl,_,SqT.of htk,_,rfl,_,SqT.of hte,_,rfl,_,rfl,_,rfl,?_⟩
        have ea:((List.range (i + 1)).all fun j=>decide (depS (spotsS (.forest ns)) e < depS (spotsS (.forest ns)) (e + 1 + j))) = (((List.range i).all fun j=>decide (depS (spotsS (.forest ns)) e < depS (spotsS (.forest ns)) (e + 1 + j))) && decide (depS (spotsS (.forest ns)) e < depS (spotsS (.forest ns)) (e + 1 + i))):=by
          rw [List.range_succ,List.all_append,List.all_cons,List.all_nil,Bool.and_true]
        refine ite2 (fun hle=>⟨some (.int ((e + 1 + i:Nat):Int)),?_⟩) fun hgt=>⟨some (.int ((e + 1 + i:Nat):Int)),?_⟩
        · rw [ea,decide_eq_false (show ¬ depS (spotsS (.forest ns)) e < depS (spotsS (.forest ns)) (e + 1 + i) by omega),Bool.and_false,Bool.and_false]
          exact StIs.rfl
        · rw [ea,decide_eq_true (show depS (spotsS (.forest ns)) e < depS (spotsS (.forest ns)) (e + 1 + i) by omega),Bool.and_true]
          exact StIs.rfl
      · rintro σ H' ⟨rfl,o,rfl⟩
        dsimp only
        subst hB
        and_intros
        exact ⟨l,_,e,n,rfl,⟨ts,hl,hr1⟩,he,hn,by decide,k⟩
theorem ok__law_due {f:Addr} {fd:FuncData} (D:Def K mg "_law_due" s__law_due ["_law_form"] f fd) (T:Txt K mg ad) {f__law_spots:Addr} {fd__law_spots:FuncData} (G__law_spots:FnOk P w K mg base CX0 1 f__law_spots fd__law_spots ["_law_form"] sp__law_spots) {f__law_pair:Addr} {fd__law_pair:FuncData} (G__law_pair:FnOk P w K mg base CX0 2 f__law_pair fd__law_pair ["_law_kind","_law_spots_here","_law_early","_law_late"] sp__law_pair) (D__law_spots:Def K mg "_law_spots" s__law_spots ["_law_form"] f__law_spots fd__law_spots) (D__law_pair:Def K mg "_law_pair" s__law_pair ["_law_kind","_law_spots_here","_law_early","_law_late"] f__law_pair fd__law_pair):FnOk P w K mg base CX0 3 f fd ["_law_form"] sp__law_due:=by
  refine D.F.ok sc__law_due (fun vs H Q E h=>?_) (fun cdv A outer s H vs Q E hr h=>?_)
  · obtain ⟨f,d,rfl,_⟩:=h
    rfl
  · obtain ⟨ff,d,rfl,hf,o,k⟩:=h
    have hu:=hr.units
    refine ⟨_,(pss_cons (ps_set (i:=1) sc__law_due.nd rfl (Or.inl rfl) (pe_call G__law_spots (hr.mono (by decide)) rfl D__law_spots.mg D__law_spots.F.kp D__law_spots.b .nil pass0 (pa_cons (pv 0) pa_nil)))
      (pss_cons (ps_set (i:=2) sc__law_due.nd rfl (Or.inl rfl) pe_dnewT)
      (pss_cons (ps_for PassesOwn.never rfl (pi_range1 rfl T.range (pa_cons (pe_callB call_lenL rfl T.len PySem.boot_len (pa_cons (pv 1) pa_nil)) pa_nil)) (pg_name (i:=3) sc__law_due.nd rfl (Or.inl rfl))
      (pss_one (ps_for PassesOwn.never rfl (pi_range2 rfl T.range (pa_cons (pe_op op_add (pv 3) pe_int) (pa_cons (pe_callB call_lenL rfl T.len PySem.boot_len (pa_cons (pv 1) pa_nil)) pa_nil))) (pg_name (i:=4) sc__law_due.nd rfl (Or.inl rfl))
      (pss_cons (ps_set (i:=5) sc__law_due.nd rfl (Or.inl rfl) (pe_call G__law_pair (hr.mono (by decide)) rfl D__law_pair.mg D__law_pair.F.kp D__law_pair.b .nil pass0 (pa_cons (pe_ix ix_tup (pv 0) pe_int (fun _ _=>rfl)) (pa_cons (pv 1) (pa_cons (pv 3) (pa_cons (pv 4) pa_nil))))))
      (pss_cons (ps_set (i:=6) sc__law_due.nd rfl (Or.inl rfl) (pe_tup (pa_cons (pe_ix ix_tup (pe_ix ix_list (pv 1) (pv 3) (fun _ _=>rfl)) pe_int (fun _ _=>rfl)) (pa_cons (pe_ix ix_tup (pe_ix ix_list (pv 1) (pv 4) (fun _ _=>rfl)) pe_int (fun _ _=>rfl)) pa_nil))))
      (pss_cons (ps_set (i:=7) sc__law_due.nd rfl (Or.inl rfl) (pe_dget2 (hu1 hu) (pv 2) (pv 6) (pe_tup (pa_cons pe_bl (pa_cons pe_bl pa_nil))) ⟨rfl,rfl,rfl,rfl⟩))
      (pss_one (ps_dput (hu1 hu) (pv 2) (pv 6) (pe_tup (pa_cons (pe_or (pe_ix ix_tup (pv 7) pe_int (fun _ _=>rfl)) (pe_one (pe_ix ix_tup (pv 5) pe_int (fun _ _=>rfl)))) (pa_cons (pe_or (pe_ix ix_tup (pv 7) pe_int (fun _ _=>rfl)) (pe_one (pe_ix ix_tup (pv 5) pe_int (fun _ _=>rfl)))) pa_nil))) rfl))))))))
      (pss_one (ps_ret (pv 2)))))),?_⟩
    have hsz:=spots_le o
    refine tseq_open fun B hB=>?_
    and_intros
    refine ⟨ff,d,rfl,hf,o,fun l H1 s1 hl=>?_⟩
    obtain ⟨ts,hl1,hr1⟩:=hl
    have hlen:=hr1.length
    rw [List.length_map] at hlen
    obtain ⟨rs,hk⟩:=(hf.same s1).kind
    subst hB
    refine tseq_open fun B hB=>?_
    and_intros
    intro dd hdd
    have s2:=Same.put (o:=.dT []) hdd
    have f2:(upd H1 dd (.dT [])) dd = some (.dT []):=upd_same
    generalize (upd H1 dd (.dT [])) = H2 at s2 f2 ⊢
    subst hB
    refine tseq_open fun B hB=>?_
    and_intros
    refine (show iRng1 _ _ _ _ from ?_)
    refine split_it (fun J H3=>H3 = H2 ∧ J = Itr 0 (spotsS d).length) (fun G' hG=>?_) ?_
    · and_intros
      have:=hG _ _ ⟨rfl,rfl⟩
      refine ⟨_,SqL.of (s2 _ _ hl1),by omega,by omega,?_⟩
      rw [hlen]
      exact this
    rintro _ H3 ⟨hH3,rfl⟩
    subst hH3
    refine for_range (n:=(spotsS d).length) (fun i σ H'=>Same H1 H' ∧ DueAt H' dd d (preN (spotsS d).length i) ∧ ∃ o3 o4 o5 o6 o7:Option V,StIs σ [some (.ref ff),some (.ref l),some (.ref dd),o3,o4,o5,o6,o7]) ⟨s2,⟨[],f2,Nat.le_refl _,fun a b=>.inl ⟨rfl,rfl⟩⟩,none,none,none,none,none,StIs.rfl⟩ ?_ ?_
    · rintro i σ H' hi ⟨s3,hD,p3,p4,p5,p6,p7,rfl⟩
      and_intros
      refine (show iRng2 _ _ _ _ from ?_)
      refine split_it (fun J H4=>H4 = H' ∧ J = Itr ((i:Int) + 1) ((spotsS d).length - (i + 1))) (fun G' hG=>?_) ?_
      · and_intros
        have:=hG _ _ ⟨rfl,rfl⟩
        rw [show (spotsS d).length - (i + 1) = ((ts.length:Int) - (0 + (i:Int) + 1)).toNat by omega,show (i:Int) + 1 = 0 + (i:Int) + 1 by omega] at this
        refine ⟨_,SqL.of (s3 _ _ hl1),by omega,by omega,by omega,by omega,this⟩
      rintro _ H4 ⟨hH4,rfl⟩
      subst hH4
      refine for_range (n:=(spotsS d).length - (i + 1)) (fun j σ H'=>Same H1 H' ∧ DueAt H' dd d (preN (spotsS d).length i ++ (List.range j).map fun j=>(i,i + 1 + j)) ∧ ∃ o4 o5 o6 o7:Option V,StIs σ [some (.ref ff),some (.ref l),some (.ref dd),some (.int (0 + (i:Int))),o4,o5,o6,o7]) ⟨s3,by rw [List.range_zero,List.map_nil,List.append_nil]; exact hD,_,_,_,_,StIs.rfl⟩ ?_ ?_
      · rintro j σ H' hj ⟨s4,⟨kvs,hd1,hd2⟩,p4,p5,p6,p7,rfl⟩
        refine tseq_open fun B2 hB2=>?_
        and_intros
        rw [Int.zero_add,show (i:Int) + 1 + (j:Int) = ((i + 1 + j:Nat):Int) by omega]
        obtain ⟨ti,ai,hti⟩:=spots_get hr1 hi
        obtain ⟨tj,aj,htj⟩:=spots_get hr1 (i:=i + 1 + j) (by omega)
        refine ⟨_,SqT.of (s4 _ _ hk),_,(show atI _ ((0:Nat):Int) = _ from atI_nat rfl),l,d,i,i + 1 + j,rfl,⟨ts,s4 _ _ hl1,hr1.same s4⟩,by omega,by omega,by omega,fun tf htf=>?_⟩
        have s5:=Same.put (o:=.tup [.bl (underS d i (i + 1 + j)),.bl (besideS d i (i + 1 + j))]) htf
        have f5:(upd H' tf (.tup [.bl (underS d i (i + 1 + j)),.bl (besideS d i (i + 1 + j))])) tf = some (.tup [.bl (underS d i (i + 1 + j)),.bl (besideS d i (i + 1 + j))]):=upd_same
        generalize (upd H' tf (.tup [.bl (underS d i (i + 1 + j)),.bl (besideS d i (i + 1 + j))])) = H5 at s5 f5 ⊢
        have s15:=s4.trans s5
        subst hB2
        refine tseq_open fun B2 hB2=>?_
        and_intros
        refine ⟨_,SqL.of (s15 _ _ hl1),_,ai,ti,rfl,_,SqT.of (s15 _ _ hti),_,rfl,_,SqL.of (s15 _ _ hl1),_,aj,tj,rfl,_,SqT.of (s15 _ _ htj),_,rfl,by decide,fun tb htb=>?_⟩
        generalize ea:((spotsS d).getD i ("",0,0)).1 = a0 at hti ⊢
        generalize eb:((spotsS d).getD (i + 1 + j) ("",0,0)).1 = b0 at htj ⊢
        have s6:=Same.put (o:=.tup [.str a0,.str b0]) htb
        have f6:(upd H5 tb (.tup [.str a0,.str b0])) tb = some (.tup [.str a0,.str b0]):=upd_same
        generalize (upd H5 tb (.tup [.str a0,.str b0])) = H6 at s6 f6 ⊢
        subst hB2
        refine tseq_open fun B2 hB2=>?_
        and_intros
        refine ⟨.inr ⟨kvs,.inl (s6 _ _ (s5 _ _ hd1))⟩,by decide,fun t3 ht3=>?_⟩
        have s7:=Same.put (o:=.tup [.bl false,.bl false]) ht3
        have f7:(upd H6 t3 (.tup [.bl false,.bl false])) t3 = some (.tup [.bl false,.bl false]):=upd_same
        generalize (upd H6 t3 (.tup [.bl false,.bl false])) = H7 at s7 f7 ⊢
        have s67:=s6.trans s7
        have s57:=s5.trans s67
        refine ⟨_,DGet.t (k:=[.inr a0,.inr b0]) (s57 _ _ hd1) (s7 _ _ f6),?_⟩
        obtain ⟨tk,etk,htk⟩:∃ tk,(valV kvs [.inr a0,.inr b0]).getD (.ref t3) = .ref tk ∧ H7 tk = some (.tup [.bl (dueS (underS d) (spotsS d) a0 b0 (preN (spotsS d).length i ++ (List.range j).map fun j=>(i,i + 1 + j))),.bl (dueS (besideS d) (spotsS d) a0 b0 (preN (spotsS d).length i ++ (List.range j).map fun j=>(i,i + 1 + j)))]):=by
          rcases hd2.2 a0 b0 with ⟨h1,h2⟩ | ⟨t,h1,h2,h3⟩
          · rw [h1,due_none h2,due_none h2]
            exact ⟨t3,rfl,f7⟩
          · rw [h1]
            exact ⟨t,rfl,s57 _ _ h3⟩
        rw [etk]
        have hsp:=s57 _ _ hd1
        have lkv:=hd2.1
        have lpre:=pre_le (spotsS d).length i
        rw [List.length_append,List.length_map,List.length_range] at lkv
        have lp2:i * (spotsS d).length ≤ 144 * 144:=Nat.mul_le_mul (by omega) hsz
        have eps:(preN (spotsS d).length i ++ (List.range (j + 1)).map fun j=>(i,i + 1 + j)) = (preN (spotsS d).length i ++ (List.range j).map fun j=>(i,i + 1 + j)) ++ [(i,i + 1 + j)]:=by
          rw [List.range_succ,List.map_append,List.append_assoc]
          rfl
        rw [eps]
        generalize (preN (spotsS d).length i ++ (List.range j).map fun j=>(i,i + 1 + j)) = ps at hd2 htk ⊢
        subst hB2
        and_intros
        have fin:∀ (u b:Bool),u = (dueS (underS d) (spotsS d) a0 b0 ps || underS d i (i + 1 + j)) → b = (dueS (besideS d) (spotsS d) a0 b0 ps || besideS d i (i + 1 + j)) → ∀ p,H7 p = none → ∃ x,DPut (upd H7 p (.tup [.bl u,.bl b])) dd (.ref tb) (.ref p) x ∧ Same H1 x ∧ DueAt x dd d (ps ++ [(i,i + 1 + j)]) ∧ ∃ o4 o5 o6 o7:Option V,StIs [some (.ref ff),some (.ref l),some (.ref dd),some (.int (i:Int)),some (.int ((i + 1 + j:Nat):Int)),some (.ref tf),some (.ref tb),some (.ref tk)] [some (.ref ff),some (.ref l),some (.ref dd),some (.int (i:Int)),o4,o5,o6,o7]:=fun u b eu eb' p hp=>by
          have s8:=Same.put (o:=.tup [.bl u,.bl b]) hp
          have np:p ≠ dd:=ne_of_none2 hsp hp
          refine ⟨_,DPut.t (k:=[.inr a0,.inr b0]) (s8 _ _ hsp) (s8 _ _ (s7 _ _ f6)) (Nat.lt_of_le_of_lt (by omega:kvs.length ≤ 30000) (by decide)),fun b o e=>?_,⟨_,upd_same,hd2.step (fun t ys e=>?_) ea eb ?_⟩,_,_,_,_,StIs.rfl⟩
          · rw [upd_ne (ne_of_none e hdd)]
            exact s8 _ _ (s57 _ _ (s4 _ _ e))
          · have nt:t ≠ dd:=fun q=>by
              rw [q,hd1] at e
              cases e
            rw [upd_ne nt]
            exact s8 _ _ (s57 _ _ e)
          · rw [upd_ne np,← eu,← eb']
            exact upd_same
        have f7':=s67 _ _ f5
        generalize dueS (underS d) (spotsS d) a0 b0 ps = U0 at htk fin
        generalize dueS (besideS d) (spotsS d) a0 b0 ps = B0 at htk fin
        refine ⟨_,SqT.of htk,_,rfl,U0,rfl,ite2 (fun h1=>⟨_,SqT.of htk,_,rfl,B0,rfl,ite2 (fun h2=>⟨by decide,fin true true (by rw [h1]; rfl) (by rw [h2]; rfl)⟩) fun h2=>⟨_,SqT.of f7',_,rfl,by decide,fin true _ (by rw [h1]; rfl) (by rw [Bool.eq_false_iff.mpr h2]; rfl)⟩⟩) fun h1=>⟨_,SqT.of f7',_,rfl,_,SqT.of htk,_,rfl,B0,rfl,ite2 (fun h2=>⟨by decide,fin _ true (by rw [Bool.eq_false_iff.mpr h1]; rfl) (by rw [h2]; rfl)⟩) fun h2=>⟨_,SqT.of f7',_,rfl,by decide,fin _ _ (by rw [Bool.eq_false_iff.mpr h1]; rfl) (by rw [Bool.eq_false_iff.mpr h2]; rfl)⟩⟩⟩
      · rintro σ H' ⟨s4,hD',p4,p5,p6,p7,rfl⟩
        and_intros
        rw [← pre_snoc] at hD'
        exact ⟨s4,hD',_,_,_,_,_,StIs.rfl⟩
    · rintro σ H' ⟨s3,hD,p3,p4,p5,p6,p7,rfl⟩
      dsimp only
      subst hB
      and_intros
      exact k dd H' (s1.trans s3) hD
theorem ok_law {f:Addr} {fd:FuncData} (D:Def K mg "law" s_law ["_law_script"] f fd) (T:Txt K mg ad) {f__law_cell_at:Addr} {fd__law_cell_at:FuncData} (G__law_cell_at:FnOk P w K mg base CX0 1 f__law_cell_at fd__law_cell_at ["_law_script","_law_k"] (sp__law_cell_at K)) {f__law_marks:Addr} {fd__law_marks:FuncData} (G__law_marks:FnOk P w K mg base CX0 1 f__law_marks fd__law_marks ["_law_cell","_law_many"] sp__law_marks) {f__law_how_many:Addr} {fd__law_how_many:FuncData} (G__law_how_many:FnOk P w K mg base CX0 1 f__law_how_many fd__law_how_many ["_law_number"] sp__law_how_many) {f__law_thing:Addr} {fd__law_thing:FuncData} (G__law_thing:FnOk P w K mg base CX0 6 f__law_thing fd__law_thing ["_law_kind","_law_script","_law_begin","_law_marks_here"] (sp__law_thing K ad)) {f_Row_left:Addr} {fd_Row_left:FuncData} (G_Row_left:FnOk P w K mg base (CX1 P w) 5 f_Row_left fd_Row_left ["self","places"] (sp_Row_left ad)) {f__law_some:Addr} {fd__law_some:FuncData} (G__law_some:FnOk P w K mg base CX0 2 f__law_some fd__law_some ["_law_cell","_law_many"] sp__law_some) {f_Row_many:Addr} {fd_Row_many:FuncData} (G_Row_many:FnOk P w K mg base CX0 1 f_Row_many fd_Row_many ["self"] (sp_Row_many ad)) {f_Forest_many:Addr} {fd_Forest_many:FuncData} (G_Forest_many:FnOk P w K mg base CX0 1 f_Forest_many fd_Forest_many ["self"] (sp_many ad)) {f_Table_many:Addr} {fd_Table_many:FuncData} (G_Table_many:FnOk P w K mg base CX0 1 f_Table_many fd_Table_many ["self"] (sp_Table_many ad)) {f_Forest_left:Addr} {fd_Forest_left:FuncData} (G_Forest_left:FnOk P w K mg base (CX1 P w) 6 f_Forest_left fd_Forest_left ["self","places"] (sp_Forest_left ad)) {f_Table_left:Addr} {fd_Table_left:FuncData} (G_Table_left:FnOk P w K mg base (CX1 P w) 6 f_Table_left fd_Table_left ["self","places"] (sp_Table_left ad)) {f_Row_form:Addr} {fd_Row_form:FuncData} (G_Row_form:FnOk P w K mg base CX0 1 f_Row_form fd_Row_form ["self"] (sp_Row_form ad)) {f_Forest_form:Addr} {fd_Forest_form:FuncData} (G_Forest_form:FnOk P w K mg base CX0 1 f_Forest_form fd_Forest_form ["self"] (sp_form ad)) {f_Table_form:Addr} {fd_Table_form:FuncData} (G_Table_form:FnOk P w K mg base CX0 1 f_Table_form fd_Table_form ["self"] (sp_Table_form ad)) {f__law_due:Addr} {fd__law_due:FuncData} (G__law_due:FnOk P w K mg base CX0 3 f__law_due fd__law_due ["_law_form"] sp__law_due) {f_Thing_is_before:Addr} {fd_Thing_is_before:FuncData} (G_Thing_is_before:FnOk P w K mg base CX0 2 f_Thing_is_before fd_Thing_is_before ["self","one","other"] (sp_is_before ad)) {f_Row_is_under:Addr} {fd_Row_is_under:FuncData} (G_Row_is_under:FnOk P w K mg base CX0 1 f_Row_is_under fd_Row_is_under ["self","one","other"] sp_Row_is_under) {f_Forest_is_under:Addr} {fd_Forest_is_under:FuncData} (G_Forest_is_under:FnOk P w K mg base CX0 3 f_Forest_is_under fd_Forest_is_under ["self","one","other"] (sp_Forest_is_under ad)) {f_Table_is_under:Addr} {fd_Table_is_under:FuncData} (G_Table_is_under:FnOk P w K mg base CX0 2 f_Table_is_under fd_Table_is_under ["self","one","other"] (sp_Table_is_under ad)) {f_Row_is_beside:Addr} {fd_Row_is_beside:FuncData} (G_Row_is_beside:FnOk P w K mg base CX0 2 f_Row_is_beside fd_Row_is_beside ["self","one","other"] (sp_Row_is_beside ad)) {f_Forest_is_beside:Addr} {fd_Forest_is_beside:FuncData} (G_Forest_is_beside:FnOk P w K mg base CX0 3 f_Forest_is_beside fd_Forest_is_beside ["self","one","other"] (sp_Forest_is_beside ad)) {f_Table_is_beside:Addr} {fd_Table_is_beside:FuncData} (G_Table_is_beside:FnOk P w K mg base CX0 2 f_Table_is_beside fd_Table_is_beside ["self","one","other"] (sp_Table_is_beside ad)) (D__law_cell_at:Def K mg "_law_cell_at" s__law_cell_at ["_law_script","_law_k"] f__law_cell_at fd__law_cell_at) (D__law_marks:Def K mg "_law_marks" s__law_marks ["_law_cell","_law_many"] f__law_marks fd__law_marks) (D__law_how_many:Def K mg "_law_how_many" s__law_how_many ["_law_number"] f__law_how_many fd__law_how_many) (D__law_thing:Def K mg "_law_thing" s__law_thing ["_law_kind","_law_script","_law_begin","_law_marks_here"] f__law_thing fd__law_thing) (D__law_some:Def K mg "_law_some" s__law_some ["_law_cell","_law_many"] f__law_some fd__law_some) (D__law_due:Def K mg "_law_due" s__law_due ["_law_form"] f__law_due fd__law_due) (B_Row_left:Binds K fd_Row_left ["self","places"] []) (B_Row_many:Binds K fd_Row_many ["self"] []) (B_Forest_many:Binds K fd_Forest_many ["self"] []) (B_Table_many:Binds K fd_Table_many ["self"] []) (B_Forest_left:Binds K fd_Forest_left ["self","places"] []) (B_Table_left:Binds K fd_Table_left ["self","places"] []) (B_Row_form:Binds K fd_Row_form ["self"] []) (B_Forest_form:Binds K fd_Forest_form ["self"] []) (B_Table_form:Binds K fd_Table_form ["self"] []) (B_Thing_is_before:Binds K fd_Thing_is_before ["self","one","other"] []) (B_Row_is_under:Binds K fd_Row_is_under ["self","one","other"] []) (B_Forest_is_under:Binds K fd_Forest_is_under ["self","one","other"] []) (B_Table_is_under:Binds K fd_Table_is_under ["self","one","other"] []) (B_Row_is_beside:Binds K fd_Row_is_beside ["self","one","other"] []) (B_Forest_is_beside:Binds K fd_Forest_is_beside ["self","one","other"] []) (B_Table_is_beside:Binds K fd_Table_is_beside ["self","one","other"] []) (ME_Row_left:Meth K ad.Row "left" f_Row_left) (ME_Row_many:Meth K ad.Row "many" f_Row_many) (ME_Forest_many:Meth K ad.Forest "many" f_Forest_many) (ME_Table_many:Meth K ad.Table "many" f_Table_many) (ME_Forest_left:Meth K ad.Forest "left" f_Forest_left) (ME_Table_left:Meth K ad.Table "left" f_Table_left) (ME_Row_form:Meth K ad.Row "form" f_Row_form) (ME_Forest_form:Meth K ad.Forest "form" f_Forest_form) (ME_Table_form:Meth K ad.Table "form" f_Table_form) (ME_Row_is_before:Meth K ad.Row "is_before" f_Thing_is_before) (ME_Forest_is_before:Meth K ad.Forest "is_before" f_Thing_is_before) (ME_Table_is_before:Meth K ad.Table "is_before" f_Thing_is_before) (ME_Row_is_under:Meth K ad.Row "is_under" f_Row_is_under) (ME_Forest_is_under:Meth K ad.Forest "is_under" f_Forest_is_under) (ME_Table_is_under:Meth K ad.Table "is_under" f_Table_is_under) (ME_Row_is_beside:Meth K ad.Row "is_beside" f_Row_is_beside) (ME_Forest_is_beside:Meth K ad.Forest "is_beside" f_Forest_is_beside) (ME_Table_is_beside:Meth K ad.Table "is_beside" f_Table_is_beside):FnOk P w K mg base CX0 7 f fd ["_law_script"] (sp_law K):=by
  refine D.F.ok sc_law (fun vs H Q E h=>?_) (fun cdv A outer s H vs Q E hr h=>?_)
  · obtain ⟨a,ns,rfl,_⟩:=h
    rfl
  · obtain ⟨a,ns,rfl,hS,hn,k⟩:=h
    have hu:=hr.units
    refine ⟨_,(pss_cons (ps_set (i:=1) sc_law.nd rfl (Or.inl rfl) (pe_call G__law_cell_at (hr.mono (by decide)) rfl D__law_cell_at.mg D__law_cell_at.F.kp D__law_cell_at.b .nil pass0 (pa_cons (pv 0) (pa_cons pe_int pa_nil))))
      (pss_cons (ps_set (i:=2) sc_law.nd rfl (Or.inr rfl) (pe_call G__law_marks (hr.mono (by decide)) rfl D__law_marks.mg D__law_marks.F.kp D__law_marks.b .nil pass0 (pa_cons (pe_call G__law_cell_at (hr.mono (by decide)) rfl D__law_cell_at.mg D__law_cell_at.F.kp D__law_cell_at.b .nil pass0 (pa_cons (pv 0) (pa_cons pe_int pa_nil))) (pa_cons (pe_op op_add pe_int (pe_call G__law_how_many (hr.mono (by decide)) rfl D__law_how_many.mg D__law_how_many.F.kp D__law_how_many.b .nil pass0 (pa_cons (pe_op op_fdiv (pv 1) pe_int) pa_nil))) pa_nil))))
      (pss_cons (ps_set (i:=3) sc_law.nd rfl (Or.inl rfl) (pe_call G__law_thing (hr.mono (by decide)) rfl D__law_thing.mg D__law_thing.F.kp D__law_thing.b .nil pass0 (pa_cons (pe_op op_mod (pv 1) pe_int) (pa_cons (pv 0) (pa_cons pe_int (pa_cons (pe_slice sl_list (pv 2) po_none (po_some (pe_un un_neg pe_int))) pa_nil))))))
      (pss_cons (ps_if (pt_cmpR op_eq (pe_op op_mod (pe_op op_fdiv (pv 1) pe_int) pe_int) pe_int (nomark _))
      (pss_one (ps_set (i:=3) sc_law.nd rfl (Or.inl rfl) (pe_either (pe_either (pe_meth (pv 3) T.cl_Row ME_Row_left G_Row_left (hr.mono (by decide)) B_Row_left .nil passE (pa_cons (pe_call G__law_some (hr.mono (by decide)) rfl D__law_some.mg D__law_some.F.kp D__law_some.b .nil pass0 (pa_cons (pe_call G__law_cell_at (hr.mono (by decide)) rfl D__law_cell_at.mg D__law_cell_at.F.kp D__law_cell_at.b .nil pass0 (pa_cons (pv 0) (pa_cons pe_int pa_nil))) (pa_cons (pe_either (pe_either (pe_meth0 (pv 3) T.cl_Row ME_Row_many G_Row_many (hr.mono (by decide)) B_Row_many .nil pass0) (pe_meth0 (pv 3) T.cl_Forest ME_Forest_many G_Forest_many (hr.mono (by decide)) B_Forest_many .nil pass0)) (pe_meth0 (pv 3) T.cl_Table ME_Table_many G_Table_many (hr.mono (by decide)) B_Table_many .nil pass0)) pa_nil))) pa_nil)) (pe_meth (pv 3) T.cl_Forest ME_Forest_left G_Forest_left (hr.mono (by decide)) B_Forest_left .nil passE (pa_cons (pe_call G__law_some (hr.mono (by decide)) rfl D__law_some.mg D__law_some.F.kp D__law_some.b .nil pass0 (pa_cons (pe_call G__law_cell_at (hr.mono (by decide)) rfl D__law_cell_at.mg D__law_cell_at.F.kp D__law_cell_at.b .nil pass0 (pa_cons (pv 0) (pa_cons pe_int pa_nil))) (pa_cons (pe_either (pe_either (pe_meth0 (pv 3) T.cl_Row ME_Row_many G_Row_many (hr.mono (by decide)) B_Row_many .nil pass0) (pe_meth0 (pv 3) T.cl_Forest ME_Forest_many G_Forest_many (hr.mono (by decide)) B_Forest_many .nil pass0)) (pe_meth0 (pv 3) T.cl_Table ME_Table_many G_Table_many (hr.mono (by decide)) B_Table_many .nil pass0)) pa_nil))) pa_nil))) (pe_meth (pv 3) T.cl_Table ME_Table_left G_Table_left (hr.mono (by decide)) B_Table_left .nil passE (pa_cons (pe_call G__law_some (hr.mono (by decide)) rfl D__law_some.mg D__law_some.F.kp D__law_some.b .nil pass0 (pa_cons (pe_call G__law_cell_at (hr.mono (by decide)) rfl D__law_cell_at.mg D__law_cell_at.F.kp D__law_cell_at.b .nil pass0 (pa_cons (pv 0) (pa_cons pe_int pa_nil))) (pa_cons (pe_either (pe_either (pe_meth0 (pv 3) T.cl_Row ME_Row_many G_Row_many (hr.mono (by decide)) B_Row_many .nil pass0) (pe_meth0 (pv 3) T.cl_Forest ME_Forest_many G_Forest_many (hr.mono (by decide)) B_Forest_many .nil pass0)) (pe_meth0 (pv 3) T.cl_Table ME_Table_many G_Table_many (hr.mono (by decide)) B_Table_many .nil pass0)) pa_nil))) pa_nil)))))
      pss_nil)
      (pss_cons (ps_set (i:=4) sc_law.nd rfl (Or.inl rfl) (pe_either (pe_either (pe_meth0 (pv 3) T.cl_Row ME_Row_form G_Row_form (hr.mono (by decide)) B_Row_form .nil pass0) (pe_meth0 (pv 3) T.cl_Forest ME_Forest_form G_Forest_form (hr.mono (by decide)) B_Forest_form .nil pass0)) (pe_meth0 (pv 3) T.cl_Table ME_Table_form G_Table_form (hr.mono (by decide)) B_Table_form .nil pass0)))
      (pss_cons (ps_set (i:=5) sc_law.nd rfl (Or.inl rfl) (pe_call G__law_due (hr.mono (by decide)) rfl D__law_due.mg D__law_due.F.kp D__law_due.b .nil pass0 (pa_cons (pv 4) pa_nil)))
      (pss_cons (ps_set (i:=6) sc_law.nd rfl (Or.inl rfl) (pv 2))
      (pss_cons (ps_if (pt_cmpR op_gt (pe_callB call_lenL rfl T.len PySem.boot_len (pa_cons (pv 2) pa_nil)) pe_int (nomark _))
      (pss_cons (ps_set (i:=7) sc_law.nd rfl (Or.inr rfl) (pe_op op_mod (pe_op op_fdiv (pe_call G__law_cell_at (hr.mono (by decide)) rfl D__law_cell_at.mg D__law_cell_at.F.kp D__law_cell_at.b .nil pass0 (pa_cons (pv 0) (pa_cons pe_int pa_nil))) pe_int) (pe_callB call_lenL rfl T.len PySem.boot_len (pa_cons (pv 2) pa_nil))))
      (pss_one (ps_set (i:=6) sc_law.nd rfl (Or.inl rfl) (pe_op op_cat (pe_comp (own:=["_law_k"]) (cap:=["_law_marks_here","_law_at"]) (ix:=[2,7]) rfl (show CompScope ["_law_script","_law_seed","_law_marks_here","_law_one","_law_form","_law_due_here","_law_asked","_law_at","_law_mark","_law_other","_law_told","_law_answer","_law_wanted"] (defScope s_law) _ ["_law_k"] ["_law_marks_here","_law_at"] [2,7] from ⟨rfl,by decide +kernel,by decide +kernel,by decide +kernel,by decide +kernel,by decide +kernel,by decide +kernel,rfl,by decide +kernel⟩) (pi_range1 rfl T.range (pa_cons pe_int pa_nil)) (fun C s₀ H₀ ex pn=>⟨pg_name (i:=0) (show (["_law_k","_law_marks_here","_law_at"]:List Str).Nodup by decide +kernel) rfl (Or.inl rfl),pifs_nil,(pe_ix (show IxR _ (rIxL K) from ix_list) (pv 1) (pe_op op_mod (pe_op op_add (pv 2) (pv 0)) (pe_callB (show CallR _ (.builtin "len") (rLenL K) from call_lenL) rfl T.len PySem.boot_len (pa_cons (pv 1) pa_nil))) (fun _ _=>rfl))⟩)) (pe_slice sl_list (pv 2) (po_some (pe_un un_neg pe_int)) po_none)))))
      pss_nil)
      (pss_cons (ps_for PassesOwn.never rfl (pi_list (pv 6)) (pg_name (i:=8) sc_law.nd rfl (Or.inl rfl))
      (pss_one (ps_for PassesOwn.never rfl (pi_list (pv 6)) (pg_name (i:=9) sc_law.nd rfl (Or.inl rfl))
      (pss_cons (ps_set (i:=10) sc_law.nd rfl (Or.inl rfl) (pe_lst (pa_cons (pe_either (pe_either (pe_meth (pv 3) T.cl_Row ME_Row_is_before G_Thing_is_before (hr.mono (by decide)) B_Thing_is_before .nil pass0 (pa_cons (pv 8) (pa_cons (pv 9) pa_nil))) (pe_meth (pv 3) T.cl_Forest ME_Forest_is_before G_Thing_is_before (hr.mono (by decide)) B_Thing_is_before .nil pass0 (pa_cons (pv 8) (pa_cons (pv 9) pa_nil)))) (pe_meth (pv 3) T.cl_Table ME_Table_is_before G_Thing_is_before (hr.mono (by decide)) B_Thing_is_before .nil pass0 (pa_cons (pv 8) (pa_cons (pv 9) pa_nil)))) (pa_cons (pe_either (pe_either (pe_meth (pv 3) T.cl_Row ME_Row_is_under G_Row_is_under (hr.mono (by decide)) B_Row_is_under .nil pass0 (pa_cons (pv 8) (pa_cons (pv 9) pa_nil))) (pe_meth (pv 3) T.cl_Forest ME_Forest_is_under G_Forest_is_under (hr.mono (by decide)) B_Forest_is_under .nil pass0 (pa_cons (pv 8) (pa_cons (pv 9) pa_nil)))) (pe_meth (pv 3) T.cl_Table ME_Table_is_under G_Table_is_under (hr.mono (by decide)) B_Table_is_under .nil pass0 (pa_cons (pv 8) (pa_cons (pv 9) pa_nil)))) (pa_cons (pe_either (pe_either (pe_meth (pv 3) T.cl_Row ME_Row_is_beside G_Row_is_beside (hr.mono (by decide)) B_Row_is_beside .nil pass0 (pa_cons (pv 8) (pa_cons (pv 9) pa_nil))) (pe_meth (pv 3) T.cl_Forest ME_Forest_is_beside G_Forest_is_beside (hr.mono (by decide)) B_Forest_is_beside .nil pass0 (pa_cons (pv 8) (pa_cons (pv 9) pa_nil)))) (pe_meth (pv 3) T.cl_Table ME_Table_is_beside G_Table_is_beside (hr.mono (by decide)) B_Table_is_beside .nil pass0 (pa_cons (pv 8) (pa_cons (pv 9) pa_nil)))) pa_nil)))))
      (pss_cons (ps_for PassesOwn.never rfl (pi_list (pv 10)) (pg_name (i:=11) sc_law.nd rfl (Or.inl rfl))
      (pss_one (ps_if (pt_not (pt_val (pe_callB call_isiT rfl T.isinstance PyProof.Rows.boot_isinstance (pa_cons (pv 11) (pa_cons (pe_ty rfl T.bool PyProof.Rows.boot_bool) pa_nil)))))
      (pss_one (ps_ret pe_bl))
      pss_nil)))
      (pss_cons (ps_set (i:=12) sc_law.nd rfl (Or.inl rfl) (pe_lst (pa_cons pe_bl (pa_cons pe_bl (pa_cons pe_bl pa_nil)))))
      (pss_cons (ps_if (pt_cmp (pc_din (hu1 hu) (pe_tup (pa_cons (pv 8) (pa_cons (pv 9) pa_nil))) (pv 5)))
      (pss_one (ps_set (i:=12) sc_law.nd rfl (Or.inl rfl) (pe_lst (pa_cons pe_bl (pa_cons (pe_ix ix_seq (pe_dget (hu1 hu) (pv 5) (pe_tup (pa_cons (pv 8) (pa_cons (pv 9) pa_nil))) (fun _ _=>rfl)) pe_int (fun _ _=>rfl)) (pa_cons (pe_ix ix_seq (pe_dget (hu1 hu) (pv 5) (pe_tup (pa_cons (pv 8) (pa_cons (pv 9) pa_nil))) (fun _ _=>rfl)) pe_int (fun _ _=>rfl)) pa_nil))))))
      pss_nil)
      (pss_one (ps_if (pt_cmpR (op_neD hu) (pv 10) (pv 12) (nomark _))
      (pss_one (ps_ret pe_bl))
      pss_nil)))))))))
      (pss_one (ps_ret (pe_cmpR (op_eqD hu) (pe_either (pe_either (pe_meth0 (pv 3) T.cl_Row ME_Row_form G_Row_form (hr.mono (by decide)) B_Row_form .nil pass0) (pe_meth0 (pv 3) T.cl_Forest ME_Forest_form G_Forest_form (hr.mono (by decide)) B_Forest_form .nil pass0)) (pe_meth0 (pv 3) T.cl_Table ME_Table_form G_Table_form (hr.mono (by decide)) B_Table_form .nil pass0)) (pv 4) (nomark _))))))))))))),?_⟩
    refine tseq_open fun B hB=>?_
    and_intros
    refine ⟨a,ns,0,rfl,hS,?_⟩
    subst hB
    refine tseq_open fun B hB=>?_
    and_intros
    refine ⟨a,ns,1,rfl,hS,_,rfl,fun m m1 m25=>⟨m,rfl,?_⟩⟩
    refine ⟨_,1 + m,rfl,by omega,by omega,fun zs l1 H1 hzl hzm s1 hl1=>?_⟩
    subst hB
    refine tseq_open fun B hB=>?_
    and_intros
    refine ⟨_,SqL.of hl1,fun lw hlw=>?_⟩
    have hzl':1 < zs.length:=by omega
    rw [cut_init (by rw [List.length_map]; omega),List.length_map,← List.map_take]
    have s2:=Same.put (o:=.lst ((zs.take (zs.length - 1)).map V.str)) hlw
    have f2:(upd H1 lw (.lst ((zs.take (zs.length - 1)).map V.str))) lw = some (.lst ((zs.take (zs.length - 1)).map V.str)):=upd_same
    generalize (upd H1 lw (.lst ((zs.take (zs.length - 1)).map V.str))) = H2 at s2 f2 ⊢
    refine ⟨_,a,lw,ns,3,zs.take (zs.length - 1),rfl,(hS.same s1).same s2,hn,f2,by rw [List.length_take]; omega,fun z hz=>hzm z (List.mem_of_mem_take hz),fun p d H3 s3 hT=>?_⟩
    have hl3:=s3 _ _ (s2 _ _ hl1)
    have hS3:=((hS.same s1).same s2).same s3
    subst hB
    refine tseq_open fun B hB=>?_
    and_intros
    have tail:∀ q e H4,Same H3 H4 → ThObj ad H4 q e → B ({ nx:=fun _ H'=>Q .non H',rt:=Q }:Ends) [some (.ref a),some (.int (cellF ns 0)),some (.ref l1),some (.ref q),none,none,none,none,none,none,none,none,none] H4:=fun q e H4 s4 hQ=>by
      have hl4:=s4 _ _ hl3
      have eO:=hQ.ok
      have eM:=eO.many
      subst hB
      refine tseq_open fun B hB=>?_
      and_intros
      refine any_form hQ fun ff H5 s5 hf=>?_
      have hl5:=s5 _ _ hl4
      have hQ5:=hQ.same s5
      subst hB
      refine tseq_open fun B hB=>?_
      and_intros
      refine ⟨ff,e,rfl,hf,eO,fun ld H6 s6 hdue=>?_⟩
      have hl6:=s6 _ _ hl5
      have hQ6:=hQ5.same s6
      have hf6:=hf.same s6
      obtain ⟨kvs,hk1,hk2⟩:=hdue
      subst hB
      refine tseq_open fun B hB=>?_
      and_intros
      subst hB
      refine tseq_open fun B hB=>?_
      have tail2:∀ (lA:Addr) (as:List Str) (H7:Hp) (oat:Option V),Same H6 H7 → H7 lA = some (.lst (as.map V.str)) → (∀ z ∈ as,markS z = true) → B ({ nx:=fun _ H'=>Q .non H',rt:=Q }:Ends) [some (.ref a),some (.int (cellF ns 0)),some (.ref l1),some (.ref q),some (.ref ff),some (.ref ld),some (.ref lA),oat,none,none,none,none,none] H7:=fun lA as H7 oat s7 hA hm=>by
        subst hB
        refine tseq_open fun B hB=>?_
        refine (show tFor _ _ _ _ _ _ from ?_)
        refine (show iList _ _ _ _ _ from ?_)
        refine split_it (fun J H8=>H8 = H7 ∧ J = Itl K lA) (fun G' hG=>?_) ?_
        · and_intros
          exact ⟨⟨_,SqL.of hA⟩,hG _ _ ⟨rfl,rfl⟩⟩
        rintro _ H8 ⟨hH8,rfl⟩
        subst hH8
        refine for_list (xs:=as.map V.str) (fun i σ H'=>Same H8 H' ∧ ∃ p8 p9 p10 p11 p12:Option V,StIs σ [some (.ref a),some (.int (cellF ns 0)),some (.ref l1),some (.ref q),some (.ref ff),some (.ref ld),some (.ref lA),oat,p8,p9,p10,p11,p12]) ⟨Same.refl _,none,none,none,none,none,StIs.rfl⟩ (fun i σ H' _ ⟨e,_⟩=>SqL.of (e _ _ hA)) ?_ ?_
        · rintro i x σ H' hx ⟨s8,p8,p9,p10,p11,p12,rfl⟩
          obtain ⟨mk,hmk,rfl⟩:=List.mem_map.mp (List.mem_of_getElem? hx)
          and_intros
          refine (show iList _ _ _ _ _ from ?_)
          refine split_it (fun J H9=>H9 = H' ∧ J = Itl K lA) (fun G' hG=>?_) ?_
          · and_intros
            exact ⟨⟨_,SqL.of (s8 _ _ hA)⟩,hG _ _ ⟨rfl,rfl⟩⟩
          rintro _ H9 ⟨hH9,rfl⟩
          subst hH9
          refine for_list (xs:=as.map V.str) (fun j σ H'=>Same H8 H' ∧ ∃ p9 p10 p11 p12:Option V,StIs σ [some (.ref a),some (.int (cellF ns 0)),some (.ref l1),some (.ref q),some (.ref ff),some (.ref ld),some (.ref lA),oat,some (.str mk),p9,p10,p11,p12]) ⟨s8,_,_,_,_,StIs.rfl⟩ (fun i σ H' _ ⟨e,_⟩=>SqL.of (e _ _ hA)) ?_ ?_
          · rintro j x σ H' hx' ⟨s9,p9,p10,p11,p12,rfl⟩
            obtain ⟨ot,hot,rfl⟩:=List.mem_map.mp (List.mem_of_getElem? hx')
            refine tseq_open fun B2 hB2=>?_
            and_intros
            refine any_before (hQ6.same (s7.trans s9)) ?_
            refine any_under (hQ6.same (s7.trans s9)) fun Ha sa=>?_
            refine any_beside (hQ6.same ((s7.trans s9).trans sa)) (mark_strOk (hm _ hot)) fun Hb sb=>⟨by decide,fun lt hlt=>?_⟩
            have eB:=dueBefore eO mk ot
            have eU:=dueUnder eO mk ot
            have eS:=dueBeside eO mk ot
            have s8b:Same H8 Hb:=s9.trans (sa.trans sb)
            generalize aheadB mk ot (spotsD e) = b1 at eB ⊢
            generalize underD e mk ot = b2 at eU ⊢
            generalize besideD e mk ot = b3 at eS ⊢
            have st:=Same.put (o:=.lst [.bl b1,.bl b2,.bl b3]) hlt
            have ft:(upd Hb lt (.lst [.bl b1,.bl b2,.bl b3])) lt = some (.lst [.bl b1,.bl b2,.bl b3]):=upd_same
            generalize (upd Hb lt (.lst [.bl b1,.bl b2,.bl b3])) = H10 at st ft ⊢
            have s10:Same H8 H10:=s8b.trans st
            subst hB2
            refine tseq_open fun B2 hB2=>?_
            refine (show tFor _ _ _ _ _ _ from ?_)
            refine (show iList _ _ _ _ _ from ?_)
            refine split_it (fun J H9=>H9 = H10 ∧ J = Itl K lt) (fun G' hG=>?_) ?_
            · and_intros
              exact ⟨⟨_,SqL.of ft⟩,hG _ _ ⟨rfl,rfl⟩⟩
            rintro _ H11 ⟨hH11,rfl⟩
            subst hH11
            refine for_list (xs:=[.bl b1,.bl b2,.bl b3]) (fun i σ H'=>H' = H11 ∧ ∃ p11:Option V,StIs σ [some (.ref a),some (.int (cellF ns 0)),some (.ref l1),some (.ref q),some (.ref ff),some (.ref ld),some (.ref lA),oat,some (.str mk),some (.str ot),some (.ref lt),p11,p12]) ⟨rfl,_,StIs.rfl⟩ (fun i σ H' _ ⟨e,_⟩=>e ▸ SqL.of ft) ?_ ?_
            · rintro i x σ H' hx ⟨rfl,p11,rfl⟩
              obtain ⟨b,rfl⟩:∃ b,x = .bl b:=by
                have:=List.mem_of_getElem? hx
                simp only [List.mem_cons,List.not_mem_nil,or_false] at this
                rcases this with rfl | rfl | rfl <;> exact ⟨_,rfl⟩
              and_intros
              refine ⟨_,.bl b,true,rfl,?_⟩
              rw [if_neg (by decide)]
              exact ⟨_,StIs.rfl⟩
            · rintro σ H' ⟨rfl,p11,rfl⟩
              dsimp only
              subst hB2
              refine tseq_open fun B2 hB2=>?_
              and_intros
              refine ⟨by decide,fun lw hlw=>?_⟩
              have sw:=Same.put (o:=.lst [.bl false,.bl false,.bl false]) hlw
              have fw:(upd H' lw (.lst [.bl false,.bl false,.bl false])) lw = some (.lst [.bl false,.bl false,.bl false]):=upd_same
              generalize (upd H' lw (.lst [.bl false,.bl false,.bl false])) = H12 at sw fw ⊢
              have s12:=s10.trans sw
              have ft12:=sw _ _ ft
              subst hB2
              refine tseq_open fun B2 hB2=>?_
              have fin2:∀ (D0:Ends) (lw':Addr) (H13:Hp),D0.nx = (fun σ H'=>Same H8 H' ∧ ∃ p9 p10 p11 p12:Option V,StIs σ [some (.ref a),some (.int (cellF ns 0)),some (.ref l1),some (.ref q),some (.ref ff),some (.ref ld),some (.ref lA),oat,some (.str mk),p9,p10,p11,p12]) → Same H8 H13 → H13 lt = some (.lst [.bl b1,.bl b2,.bl b3]) → H13 lw' = some (.lst [.bl b1,.bl b2,.bl b3]) → B2 D0 [some (.ref a),some (.int (cellF ns 0)),some (.ref l1),some (.ref q),some (.ref ff),some (.ref ld),some (.ref lA),oat,some (.str mk),some (.str ot),some (.ref lt),p11,some (.ref lw')] H13:=fun D0 lw' H13 hD0 s13 h1 h2=>by
                subst hB2
                and_intros
                rw [hD0]
                refine ⟨_,_,.lst (SqL.of h1) (.cons (.bl _) (.cons (.bl _) (.cons (.bl _) .nil))),.lst (SqL.of h2) (.cons (.bl _) (.cons (.bl _) (.cons (.bl _) .nil))),shaped3 b1 b2 b3,shaped3 b1 b2 b3,?_⟩
                rw [eqv3]
                refine ⟨false,rfl,?_⟩
                rw [if_neg (by decide)]
                exact ⟨s13,_,_,_,_,StIs.rfl⟩
              and_intros
              refine ⟨by decide,fun tk htk=>?_⟩
              have hkd:=s12 _ _ (s7 _ _ hk1)
              have sk:=Same.put (o:=.tup [.str mk,.str ot]) htk
              have fk:(upd H12 tk (.tup [.str mk,.str ot])) tk = some (.tup [.str mk,.str ot]):=upd_same
              generalize (upd H12 tk (.tup [.str mk,.str ot])) = H13 at sk fk ⊢
              refine ⟨_,DGet.t (k:=[.inr mk,.inr ot]) (sk _ _ hkd) fk,?_⟩
              rcases hk2.2 mk ot with ⟨g1,g2⟩ | ⟨t,g1,g2,g3⟩
              · rw [g1]
                have e1:b1 = false:=eB.trans g2
                have e2:b2 = false:=eU.trans (due_none g2)
                have e3:b3 = false:=eS.trans (due_none g2)
                subst e1 e2 e3
                exact fin2 _ lw H13 rfl (s12.trans sk) (sk _ _ ft12) (sk _ _ fw)
              · have dg:∀ {H:Hp} {b:Addr},H ld = some (.dT kvs) → H b = some (.tup [.str mk,.str ot]) → DGet H ld (.ref b) (some (.ref t)):=fun e1 e2=>by
                  have:=DGet.t (k:=[.inr mk,.inr ot]) e1 e2
                  rw [g1] at this
                  exact this
                have e1:b1 = true:=eB.trans g2
                subst e1
                rw [← eU,← eS] at g3
                have g3':=sk _ _ (s12 _ _ (s7 _ _ g3))
                rw [g1]
                refine ⟨by decide,fun p1 hp1=>⟨_,dg ((Same.put hp1) _ _ (sk _ _ hkd)) upd_same,.inr (.inl ⟨t,_,0,.bl b2,rfl,rfl,SqT.of ((Same.put hp1) _ _ g3'),rfl,?_⟩)⟩⟩
                have q1:=Same.put (o:=.tup [.str mk,.str ot]) hp1
                generalize (upd H13 p1 (.tup [.str mk,.str ot])) = H14 at q1 ⊢
                refine ⟨by decide,fun p2 hp2=>⟨_,dg ((Same.put hp2) _ _ (q1 _ _ (sk _ _ hkd))) upd_same,.inr (.inl ⟨t,_,1,.bl b3,rfl,rfl,SqT.of ((Same.put hp2) _ _ (q1 _ _ g3')),rfl,?_⟩)⟩⟩
                have q2:=Same.put (o:=.tup [.str mk,.str ot]) hp2
                generalize (upd H14 p2 (.tup [.str mk,.str ot])) = H15 at q2 ⊢
                have q12:=q1.trans q2
                refine ⟨by decide,fun p3 hp3=>fin2 _ p3 _ rfl ((s12.trans (sk.trans q12)).upd hp3) ((Same.put hp3) _ _ (q12 _ _ (sk _ _ ft12))) upd_same⟩
          · rintro σ H' ⟨s9,p9,p10,p11,p12,rfl⟩
            and_intros
            exact ⟨s9,_,_,_,_,_,StIs.rfl⟩
        · rintro σ H' ⟨s8,p8,p9,p10,p11,p12,rfl⟩
          dsimp only
          subst hB
          and_intros
          refine any_form (hQ6.same (s7.trans s8)) fun fg HG sG hfg=>?_
          refine ⟨_,_,hfg.dat eO,(hf6.same ((s7.trans s8).trans sG)).dat eO,shaped_dat eO,shaped_dat eO,?_⟩
          rw [eqv_dat eO]
          exact k _
      and_intros
      refine ⟨_,SqL.of hl6,ite2 (fun _=>?_) fun _=>tail2 l1 zs H6 none (Same.refl _) hl6 hzm⟩
      refine ⟨a,ns,2,rfl,(((hS3.same s4).same s5).same s6),_,rfl,_,SqL.of hl6,by rw [List.length_map]; omega,?_⟩
      refine tcomp_range (lo:=0) (n:=7) (H1:=H6) (fun R r=>⟨_,rfl,by decide,by decide,r⟩) (fun i ys H'=>H' = H6 ∧ ∃ as:List Str,ys = as.map V.str ∧ as.length = i ∧ ∀ z ∈ as,z ∈ zs) ⟨rfl,[],rfl,rfl,fun _ h=>nomatch h⟩ ?_ ?_
      · rintro i ys H' R hi ⟨rfl,as,rfl,hla,has⟩ hR
        and_intros
        refine tYes_in ?_
        have h0:(0:Int) < ((zs.map V.str).length:Int):=by rw [List.length_map]; omega
        obtain ⟨v,hv,_,ev⟩:=atI_mod (xs:=zs.map V.str) (i:=cellF ns 2 / 3 % ((zs.map V.str).length:Int) + (0 + (i:Int))) h0 (Int.le_refl _)
        obtain ⟨z,hz,rfl⟩:=List.mem_map.mp hv
        refine ⟨_,SqL.of hl6,h0,_,SqL.of hl6,_,ev,by rw [List.length_map]; exact small1000 (by omega),hR _ _ ⟨rfl,as ++ [z],by rw [List.map_append]; rfl,by rw [List.length_append,hla]; rfl,fun y hy=>?_⟩⟩
        rcases List.mem_append.mp hy with h | h
        · exact has y h
        · rw [List.mem_singleton.mp h]; exact hz
      · rintro ys H' ⟨rfl,as,rfl,hla,has⟩
        refine ⟨by rw [List.length_map]; exact Nat.le_of_lt (small1000 (by omega)),fun D hD=>⟨_,SqL.of ((Same.put hD) _ _ hl6),fun p' hp'=>?_⟩⟩
        have sD:=Same.put (o:=.lst (as.map V.str)) hD
        obtain ⟨bs,ebs,hbs,lbs⟩:∃ bs:List Str,cutV (zs.map V.str) (some (-1)) none = bs.map V.str ∧ (∀ z ∈ bs,z ∈ zs) ∧ bs.length ≤ zs.length:=by
          unfold cutV
          rw [← List.map_drop,← List.map_take]
          exact ⟨_,rfl,fun z hz=>List.mem_of_mem_drop (List.mem_of_mem_take hz),by rw [List.length_take,List.length_drop]; omega⟩
        rw [ebs]
        refine ⟨D,p',as.map V.str,bs.map V.str,rfl,rfl,(Same.put hp') _ _ upd_same,upd_same,by rw [List.length_map,List.length_map]; exact Nat.le_of_lt (small1000 (by omega)),fun lA hlA=>?_⟩
        rw [← List.map_append]
        exact tail2 lA (as ++ bs) _ _ ((sD.upd hp').upd hlA) upd_same fun z hz=>hzm z ((List.mem_append.mp hz).elim (has z) (hbs z))
    refine ite2 (fun _=>?_) fun _=>tail p d H3 (Same.refl _) hT
    refine any_leftS (ArgS K ad H3 a p E0) hT (argS hS3 hT) fun ps q H4 s4 hQ4=>tail q _ H4 s4 hQ4
end
theorem all_mk {l:PySem.W.OpenLaw} {w:World} {K:PySem.W.Frag} {h:Heap} {mg:Str → Option Value} {fa C_ShrinkError C_NoThing C_NoPlace C_Thing C_Row C_Forest C_Table f_is_whole f_is_mark f_check_list f_check_marks f_check_node f_check_nodes f_check_lines f_check_places f_marks_at f_places_of f_stands_ahead f_stands_right_ahead f_Thing_init f_Thing_is_before f_Row_init f_Row_many f_Row_left f_Row_form f_Row_is_under f_Row_is_beside f_Forest_init f_Forest_many f_Forest_left f_Forest_form f_Forest_standing f_Forest_is_under f_Forest_is_beside f_Forest_hanging f_Table_init f_Table_many f_Table_left f_Table_form f_Table_is_under f_Table_is_beside f__law_cell_at f__law_mix f__law_how_many f__law_marks f__law_pick f__law_cells f__law_nodes f__law_lines f__law_some f__law_table_by f__law_thing f__law_spots f__law_above f__law_pair f__law_due f_law:Addr} (X:K.In h) (G:h.Ns mainGlobals mg) (hfa:mg "law" = some (.ref fa))
    {od_is_whole an_is_whole od_is_mark an_is_mark od_check_list an_check_list od_check_marks an_check_marks od_check_node an_check_node od_check_nodes an_check_nodes od_check_lines an_check_lines od_check_places an_check_places od_marks_at an_marks_at od_places_of an_places_of od_stands_ahead an_stands_ahead od_stands_right_ahead an_stands_right_ahead od_Thing_init an_Thing_init od_Thing_is_before an_Thing_is_before od_Row_init an_Row_init od_Row_many an_Row_many od_Row_left an_Row_left od_Row_form an_Row_form od_Row_is_under an_Row_is_under od_Row_is_beside an_Row_is_beside od_Forest_init an_Forest_init od_Forest_many an_Forest_many od_Forest_left an_Forest_left od_Forest_form an_Forest_form od_Forest_standing an_Forest_standing od_Forest_is_under an_Forest_is_under od_Forest_is_beside an_Forest_is_beside od_Forest_hanging an_Forest_hanging od_Table_init an_Table_init od_Table_many an_Table_many od_Table_left an_Table_left od_Table_form an_Table_form od_Table_is_under an_Table_is_under od_Table_is_beside an_Table_is_beside od__law_cell_at an__law_cell_at od__law_mix an__law_mix od__law_how_many an__law_how_many od__law_marks an__law_marks od__law_pick an__law_pick od__law_cells an__law_cells od__law_nodes an__law_nodes od__law_lines an__law_lines od__law_some an__law_some od__law_table_by an__law_table_by od__law_thing an__law_thing od__law_spots an__law_spots od__law_above an__law_above od__law_pair an__law_pair od__law_due an__law_due od_law an_law:Option Addr} {sl_is_whole sl_is_mark sl_check_list sl_check_marks sl_check_node sl_check_nodes sl_check_lines sl_check_places sl_marks_at sl_places_of sl_stands_ahead sl_stands_right_ahead sl_Thing_init sl_Thing_is_before sl_Row_init sl_Row_many sl_Row_left sl_Row_form sl_Row_is_under sl_Row_is_beside sl_Forest_init sl_Forest_many sl_Forest_left sl_Forest_form sl_Forest_standing sl_Forest_is_under sl_Forest_is_beside sl_Forest_hanging sl_Table_init sl_Table_many sl_Table_left sl_Table_form sl_Table_is_under sl_Table_is_beside sl__law_cell_at sl__law_mix sl__law_how_many sl__law_marks sl__law_pick sl__law_cells sl__law_nodes sl__law_lines sl__law_some sl__law_table_by sl__law_thing sl__law_spots sl__law_above sl__law_pair sl__law_due sl_law:Array (Option Value)} {oc_is_whole kV_is_whole dc_is_whole pm_is_whole cd_is_whole ct_is_whole oc_is_mark kV_is_mark dc_is_mark pm_is_mark cd_is_mark ct_is_mark oc_check_list kV_check_list dc_check_list pm_check_list cd_check_list ct_check_list oc_check_marks kV_check_marks dc_check_marks pm_check_marks cd_check_marks ct_check_marks oc_check_node kV_check_node dc_check_node pm_check_node cd_check_node ct_check_node oc_check_nodes kV_check_nodes dc_check_nodes pm_check_nodes cd_check_nodes ct_check_nodes oc_check_lines kV_check_lines dc_check_lines pm_check_lines cd_check_lines ct_check_lines oc_check_places kV_check_places dc_check_places pm_check_places cd_check_places ct_check_places oc_marks_at kV_marks_at dc_marks_at pm_marks_at cd_marks_at ct_marks_at oc_places_of kV_places_of dc_places_of pm_places_of cd_places_of ct_places_of oc_stands_ahead kV_stands_ahead dc_stands_ahead pm_stands_ahead cd_stands_ahead ct_stands_ahead oc_stands_right_ahead kV_stands_right_ahead dc_stands_right_ahead pm_stands_right_ahead cd_stands_right_ahead ct_stands_right_ahead oc_Thing_init kV_Thing_init dc_Thing_init pm_Thing_init cd_Thing_init ct_Thing_init oc_Thing_is_before kV_Thing_is_before dc_Thing_is_before pm_Thing_is_before cd_Thing_is_before ct_Thing_is_before oc_Row_init kV_Row_init dc_Row_init pm_Row_init cd_Row_init ct_Row_init oc_Row_many kV_Row_many dc_Row_many pm_Row_many cd_Row_many ct_Row_many oc_Row_left kV_Row_left dc_Row_left pm_Row_left cd_Row_left ct_Row_left oc_Row_form kV_Row_form dc_Row_form pm_Row_form cd_Row_form ct_Row_form oc_Row_is_under kV_Row_is_under dc_Row_is_under pm_Row_is_under cd_Row_is_under ct_Row_is_under oc_Row_is_beside kV_Row_is_beside dc_Row_is_beside pm_Row_is_beside cd_Row_is_beside ct_Row_is_beside oc_Forest_init kV_Forest_init dc_Forest_init pm_Forest_init cd_Forest_init ct_Forest_init oc_Forest_many kV_Forest_many dc_Forest_many pm_Forest_many cd_Forest_many ct_Forest_many oc_Forest_left kV_Forest_left dc_Forest_left pm_Forest_left cd_Forest_left ct_Forest_left oc_Forest_form kV_Forest_form dc_Forest_form pm_Forest_form cd_Forest_form ct_Forest_form oc_Forest_standing kV_Forest_standing dc_Forest_standing pm_Forest_standing cd_Forest_standing ct_Forest_standing oc_Forest_is_under kV_Forest_is_under dc_Forest_is_under pm_Forest_is_under cd_Forest_is_under ct_Forest_is_under oc_Forest_is_beside kV_Forest_is_beside dc_Forest_is_beside pm_Forest_is_beside cd_Forest_is_beside ct_Forest_is_beside oc_Forest_hanging kV_Forest_hanging dc_Forest_hanging pm_Forest_hanging cd_Forest_hanging ct_Forest_hanging oc_Table_init kV_Table_init dc_Table_init pm_Table_init cd_Table_init ct_Table_init oc_Table_many kV_Table_many dc_Table_many pm_Table_many cd_Table_many ct_Table_many oc_Table_left kV_Table_left dc_Table_left pm_Table_left cd_Table_left ct_Table_left oc_Table_form kV_Table_form dc_Table_form pm_Table_form cd_Table_form ct_Table_form oc_Table_is_under kV_Table_is_under dc_Table_is_under pm_Table_is_under cd_Table_is_under ct_Table_is_under oc_Table_is_beside kV_Table_is_beside dc_Table_is_beside pm_Table_is_beside cd_Table_is_beside ct_Table_is_beside oc__law_cell_at kV__law_cell_at dc__law_cell_at pm__law_cell_at cd__law_cell_at ct__law_cell_at oc__law_mix kV__law_mix dc__law_mix pm__law_mix cd__law_mix ct__law_mix oc__law_how_many kV__law_how_many dc__law_how_many pm__law_how_many cd__law_how_many ct__law_how_many oc__law_marks kV__law_marks dc__law_marks pm__law_marks cd__law_marks ct__law_marks oc__law_pick kV__law_pick dc__law_pick pm__law_pick cd__law_pick ct__law_pick oc__law_cells kV__law_cells dc__law_cells pm__law_cells cd__law_cells ct__law_cells oc__law_nodes kV__law_nodes dc__law_nodes pm__law_nodes cd__law_nodes ct__law_nodes oc__law_lines kV__law_lines dc__law_lines pm__law_lines cd__law_lines ct__law_lines oc__law_some kV__law_some dc__law_some pm__law_some cd__law_some ct__law_some oc__law_table_by kV__law_table_by dc__law_table_by pm__law_table_by cd__law_table_by ct__law_table_by oc__law_thing kV__law_thing dc__law_thing pm__law_thing cd__law_thing ct__law_thing oc__law_spots kV__law_spots dc__law_spots pm__law_spots cd__law_spots ct__law_spots oc__law_above kV__law_above dc__law_above pm__law_above cd__law_above ct__law_above oc__law_pair kV__law_pair dc__law_pair pm__law_pair cd__law_pair ct__law_pair oc__law_due kV__law_due dc__law_due pm__law_due cd__law_due ct__law_due oc_law kV_law dc_law pm_law cd_law ct_law:Value} {tk_LETTERS tk_LONGEST_MARK tk_MOST_IN_ROW tk_MOST_NODES tk_DEEPEST tk_MOST_LINES tk_MOST_COLUMNS:Tok} {cd_NoPlace cd_NoThing:ClassData}
    (a_ShrinkError:PySem.W.nsIn K mainGlobals "ShrinkError" = some (some (.ref C_ShrinkError)))
    (a_NoThing:PySem.W.nsIn K mainGlobals "NoThing" = some (some (.ref C_NoThing)))
    (a_NoPlace:PySem.W.nsIn K mainGlobals "NoPlace" = some (some (.ref C_NoPlace)))
    (a_Thing:PySem.W.nsIn K mainGlobals "Thing" = some (some (.ref C_Thing)))
    (a_Row:PySem.W.nsIn K mainGlobals "Row" = some (some (.ref C_Row)))
    (a_Forest:PySem.W.nsIn K mainGlobals "Forest" = some (some (.ref C_Forest)))
    (a_Table:PySem.W.nsIn K mainGlobals "Table" = some (some (.ref C_Table)))
    (a_is_whole:PySem.W.nsIn K mainGlobals "is_whole" = some (some (.ref f_is_whole)))
    (l_is_whole:K.lookup f_is_whole = some ⟨oc_is_whole,od_is_whole,.func (PySem.W.fnOf "is_whole" "is_whole" (defArgs s_is_whole) (defBody s_is_whole) (defScope s_is_whole) .none kV_is_whole dc_is_whole pm_is_whole an_is_whole cd_is_whole ct_is_whole),sl_is_whole⟩)
    (c_is_whole:PySem.W.codeIn K cd_is_whole "is_whole" = true)
    (k_is_whole:PySem.W.keepIn K (.ref f_is_whole) = true)
    (a_is_mark:PySem.W.nsIn K mainGlobals "is_mark" = some (some (.ref f_is_mark)))
    (l_is_mark:K.lookup f_is_mark = some ⟨oc_is_mark,od_is_mark,.func (PySem.W.fnOf "is_mark" "is_mark" (defArgs s_is_mark) (defBody s_is_mark) (defScope s_is_mark) .none kV_is_mark dc_is_mark pm_is_mark an_is_mark cd_is_mark ct_is_mark),sl_is_mark⟩)
    (c_is_mark:PySem.W.codeIn K cd_is_mark "is_mark" = true)
    (k_is_mark:PySem.W.keepIn K (.ref f_is_mark) = true)
    (a_check_list:PySem.W.nsIn K mainGlobals "check_list" = some (some (.ref f_check_list)))
    (l_check_list:K.lookup f_check_list = some ⟨oc_check_list,od_check_list,.func (PySem.W.fnOf "check_list" "check_list" (defArgs s_check_list) (defBody s_check_list) (defScope s_check_list) .none kV_check_list dc_check_list pm_check_list an_check_list cd_check_list ct_check_list),sl_check_list⟩)
    (c_check_list:PySem.W.codeIn K cd_check_list "check_list" = true)
    (k_check_list:PySem.W.keepIn K (.ref f_check_list) = true)
    (a_check_marks:PySem.W.nsIn K mainGlobals "check_marks" = some (some (.ref f_check_marks)))
    (l_check_marks:K.lookup f_check_marks = some ⟨oc_check_marks,od_check_marks,.func (PySem.W.fnOf "check_marks" "check_marks" (defArgs s_check_marks) (defBody s_check_marks) (defScope s_check_marks) .none kV_check_marks dc_check_marks pm_check_marks an_check_marks cd_check_marks ct_check_marks),sl_check_marks⟩)
    (c_check_marks:PySem.W.codeIn K cd_check_marks "check_marks" = true)
    (k_check_marks:PySem.W.keepIn K (.ref f_check_marks) = true)
    (a_check_node:PySem.W.nsIn K mainGlobals "check_node" = some (some (.ref f_check_node)))
    (l_check_node:K.lookup f_check_node = some ⟨oc_check_node,od_check_node,.func (PySem.W.fnOf "check_node" "check_node" (defArgs s_check_node) (defBody s_check_node) (defScope s_check_node) .none kV_check_node dc_check_node pm_check_node an_check_node cd_check_node ct_check_node),sl_check_node⟩)
    (c_check_node:PySem.W.codeIn K cd_check_node "check_node" = true)
    (k_check_node:PySem.W.keepIn K (.ref f_check_node) = true)
    (a_check_nodes:PySem.W.nsIn K mainGlobals "check_nodes" = some (some (.ref f_check_nodes)))
    (l_check_nodes:K.lookup f_check_nodes = some ⟨oc_check_nodes,od_check_nodes,.func (PySem.W.fnOf "check_nodes" "check_nodes" (defArgs s_check_nodes) (defBody s_check_nodes) (defScope s_check_nodes) .none kV_check_nodes dc_check_nodes pm_check_nodes an_check_nodes cd_check_nodes ct_check_nodes),sl_check_nodes⟩)
    (c_check_nodes:PySem.W.codeIn K cd_check_nodes "check_nodes" = true)
    (k_check_nodes:PySem.W.keepIn K (.ref f_check_nodes) = true)
    (a_check_lines:PySem.W.nsIn K mainGlobals "check_lines" = some (some (.ref f_check_lines)))
    (l_check_lines:K.lookup f_check_lines = some ⟨oc_check_lines,od_check_lines,.func (PySem.W.fnOf "check_lines" "check_lines" (defArgs s_check_lines) (defBody s_check_lines) (defScope s_check_lines) .none kV_check_lines dc_check_lines pm_check_lines an_check_lines cd_check_lines ct_check_lines),sl_check_lines⟩)
    (c_check_lines:PySem.W.codeIn K cd_check_lines "check_lines" = true)
    (k_check_lines:PySem.W.keepIn K (.ref f_check_lines) = true)
    (a_check_places:PySem.W.nsIn K mainGlobals "check_places" = some (some (.ref f_check_places)))
    (l_check_places:K.lookup f_check_places = some ⟨oc_check_places,od_check_places,.func (PySem.W.fnOf "check_places" "check_places" (defArgs s_check_places) (defBody s_check_places) (defScope s_check_places) .none kV_check_places dc_check_places pm_check_places an_check_places cd_check_places ct_check_places),sl_check_places⟩)
    (c_check_places:PySem.W.codeIn K cd_check_places "check_places" = true)
    (k_check_places:PySem.W.keepIn K (.ref f_check_places) = true)
    (a_marks_at:PySem.W.nsIn K mainGlobals "marks_at" = some (some (.ref f_marks_at)))
    (l_marks_at:K.lookup f_marks_at = some ⟨oc_marks_at,od_marks_at,.func (PySem.W.fnOf "marks_at" "marks_at" (defArgs s_marks_at) (defBody s_marks_at) (defScope s_marks_at) .none kV_marks_at dc_marks_at pm_marks_at an_marks_at cd_marks_at ct_marks_at),sl_marks_at⟩)
    (c_marks_at:PySem.W.codeIn K cd_marks_at "marks_at" = true)
    (k_marks_at:PySem.W.keepIn K (.ref f_marks_at) = true)
    (a_places_of:PySem.W.nsIn K mainGlobals "places_of" = some (some (.ref f_places_of)))
    (l_places_of:K.lookup f_places_of = some ⟨oc_places_of,od_places_of,.func (PySem.W.fnOf "places_of" "places_of" (defArgs s_places_of) (defBody s_places_of) (defScope s_places_of) .none kV_places_of dc_places_of pm_places_of an_places_of cd_places_of ct_places_of),sl_places_of⟩)
    (c_places_of:PySem.W.codeIn K cd_places_of "places_of" = true)
    (k_places_of:PySem.W.keepIn K (.ref f_places_of) = true)
    (a_stands_ahead:PySem.W.nsIn K mainGlobals "stands_ahead" = some (some (.ref f_stands_ahead)))
    (l_stands_ahead:K.lookup f_stands_ahead = some ⟨oc_stands_ahead,od_stands_ahead,.func (PySem.W.fnOf "stands_ahead" "stands_ahead" (defArgs s_stands_ahead) (defBody s_stands_ahead) (defScope s_stands_ahead) .none kV_stands_ahead dc_stands_ahead pm_stands_ahead an_stands_ahead cd_stands_ahead ct_stands_ahead),sl_stands_ahead⟩)
    (c_stands_ahead:PySem.W.codeIn K cd_stands_ahead "stands_ahead" = true)
    (k_stands_ahead:PySem.W.keepIn K (.ref f_stands_ahead) = true)
    (a_stands_right_ahead:PySem.W.nsIn K mainGlobals "stands_right_ahead" = some (some (.ref f_stands_right_ahead)))
    (l_stands_right_ahead:K.lookup f_stands_right_ahead = some ⟨oc_stands_right_ahead,od_stands_right_ahead,.func (PySem.W.fnOf "stands_right_ahead" "stands_right_ahead" (defArgs s_stands_right_ahead) (defBody s_stands_right_ahead) (defScope s_stands_right_ahead) .none kV_stands_right_ahead dc_stands_right_ahead pm_stands_right_ahead an_stands_right_ahead cd_stands_right_ahead ct_stands_right_ahead),sl_stands_right_ahead⟩)
    (c_stands_right_ahead:PySem.W.codeIn K cd_stands_right_ahead "stands_right_ahead" = true)
    (k_stands_right_ahead:PySem.W.keepIn K (.ref f_stands_right_ahead) = true)
    (a_Thing_init:PySem.W.findCls K (.ref C_Thing) (.type "type") "__init__" = some (.val (.ref f_Thing_init)))
    (l_Thing_init:K.lookup f_Thing_init = some ⟨oc_Thing_init,od_Thing_init,.func (PySem.W.fnOf "__init__" "Thing.__init__" (defArgs s_Thing_init) (defBody s_Thing_init) (defScope s_Thing_init) .none kV_Thing_init dc_Thing_init pm_Thing_init an_Thing_init cd_Thing_init ct_Thing_init),sl_Thing_init⟩)
    (c_Thing_init:PySem.W.codeIn K cd_Thing_init "Thing.__init__" = true)
    (k_Thing_init:PySem.W.keepIn K (.ref f_Thing_init) = true)
    (n_Thing_init:PySem.W.isFn K (.ref f_Thing_init) = true)
    (i_Row_is_before:PySem.W.findIn K (.ref C_Row) "is_before" = some (some (.ref f_Thing_is_before)))
    (i_Forest_is_before:PySem.W.findIn K (.ref C_Forest) "is_before" = some (some (.ref f_Thing_is_before)))
    (i_Table_is_before:PySem.W.findIn K (.ref C_Table) "is_before" = some (some (.ref f_Thing_is_before)))
    (l_Thing_is_before:K.lookup f_Thing_is_before = some ⟨oc_Thing_is_before,od_Thing_is_before,.func (PySem.W.fnOf "is_before" "Thing.is_before" (defArgs s_Thing_is_before) (defBody s_Thing_is_before) (defScope s_Thing_is_before) .none kV_Thing_is_before dc_Thing_is_before pm_Thing_is_before an_Thing_is_before cd_Thing_is_before ct_Thing_is_before),sl_Thing_is_before⟩)
    (c_Thing_is_before:PySem.W.codeIn K cd_Thing_is_before "Thing.is_before" = true)
    (k_Thing_is_before:PySem.W.keepIn K (.ref f_Thing_is_before) = true)
    (n_Thing_is_before:PySem.W.isFn K (.ref f_Thing_is_before) = true)
    (a_Row_init:PySem.W.findIn K (.ref C_Row) "__init__" = some (some (.ref f_Row_init)))
    (l_Row_init:K.lookup f_Row_init = some ⟨oc_Row_init,od_Row_init,.func (PySem.W.fnOf "__init__" "Row.__init__" (defArgs s_Row_init) (defBody s_Row_init) (defScope s_Row_init) .none kV_Row_init dc_Row_init pm_Row_init an_Row_init cd_Row_init ct_Row_init),sl_Row_init⟩)
    (c_Row_init:PySem.W.codeIn K cd_Row_init "Row.__init__" = true)
    (k_Row_init:PySem.W.keepIn K (.ref f_Row_init) = true)
    (n_Row_init:PySem.W.isFn K (.ref f_Row_init) = true)
    (i_Row_many:PySem.W.findIn K (.ref C_Row) "many" = some (some (.ref f_Row_many)))
    (l_Row_many:K.lookup f_Row_many = some ⟨oc_Row_many,od_Row_many,.func (PySem.W.fnOf "many" "Row.many" (defArgs s_Row_many) (defBody s_Row_many) (defScope s_Row_many) .none kV_Row_many dc_Row_many pm_Row_many an_Row_many cd_Row_many ct_Row_many),sl_Row_many⟩)
    (c_Row_many:PySem.W.codeIn K cd_Row_many "Row.many" = true)
    (k_Row_many:PySem.W.keepIn K (.ref f_Row_many) = true)
    (n_Row_many:PySem.W.isFn K (.ref f_Row_many) = true)
    (i_Row_left:PySem.W.findIn K (.ref C_Row) "left" = some (some (.ref f_Row_left)))
    (l_Row_left:K.lookup f_Row_left = some ⟨oc_Row_left,od_Row_left,.func (PySem.W.fnOf "left" "Row.left" (defArgs s_Row_left) (defBody s_Row_left) (defScope s_Row_left) .none kV_Row_left dc_Row_left pm_Row_left an_Row_left cd_Row_left ct_Row_left),sl_Row_left⟩)
    (c_Row_left:PySem.W.codeIn K cd_Row_left "Row.left" = true)
    (k_Row_left:PySem.W.keepIn K (.ref f_Row_left) = true)
    (n_Row_left:PySem.W.isFn K (.ref f_Row_left) = true)
    (i_Row_form:PySem.W.findIn K (.ref C_Row) "form" = some (some (.ref f_Row_form)))
    (l_Row_form:K.lookup f_Row_form = some ⟨oc_Row_form,od_Row_form,.func (PySem.W.fnOf "form" "Row.form" (defArgs s_Row_form) (defBody s_Row_form) (defScope s_Row_form) .none kV_Row_form dc_Row_form pm_Row_form an_Row_form cd_Row_form ct_Row_form),sl_Row_form⟩)
    (c_Row_form:PySem.W.codeIn K cd_Row_form "Row.form" = true)
    (k_Row_form:PySem.W.keepIn K (.ref f_Row_form) = true)
    (n_Row_form:PySem.W.isFn K (.ref f_Row_form) = true)
    (i_Row_is_under:PySem.W.findIn K (.ref C_Row) "is_under" = some (some (.ref f_Row_is_under)))
    (l_Row_is_under:K.lookup f_Row_is_under = some ⟨oc_Row_is_under,od_Row_is_under,.func (PySem.W.fnOf "is_under" "Row.is_under" (defArgs s_Row_is_under) (defBody s_Row_is_under) (defScope s_Row_is_under) .none kV_Row_is_under dc_Row_is_under pm_Row_is_under an_Row_is_under cd_Row_is_under ct_Row_is_under),sl_Row_is_under⟩)
    (c_Row_is_under:PySem.W.codeIn K cd_Row_is_under "Row.is_under" = true)
    (k_Row_is_under:PySem.W.keepIn K (.ref f_Row_is_under) = true)
    (n_Row_is_under:PySem.W.isFn K (.ref f_Row_is_under) = true)
    (i_Row_is_beside:PySem.W.findIn K (.ref C_Row) "is_beside" = some (some (.ref f_Row_is_beside)))
    (l_Row_is_beside:K.lookup f_Row_is_beside = some ⟨oc_Row_is_beside,od_Row_is_beside,.func (PySem.W.fnOf "is_beside" "Row.is_beside" (defArgs s_Row_is_beside) (defBody s_Row_is_beside) (defScope s_Row_is_beside) .none kV_Row_is_beside dc_Row_is_beside pm_Row_is_beside an_Row_is_beside cd_Row_is_beside ct_Row_is_beside),sl_Row_is_beside⟩)
    (c_Row_is_beside:PySem.W.codeIn K cd_Row_is_beside "Row.is_beside" = true)
    (k_Row_is_beside:PySem.W.keepIn K (.ref f_Row_is_beside) = true)
    (n_Row_is_beside:PySem.W.isFn K (.ref f_Row_is_beside) = true)
    (a_Forest_init:PySem.W.findIn K (.ref C_Forest) "__init__" = some (some (.ref f_Forest_init)))
    (l_Forest_init:K.lookup f_Forest_init = some ⟨oc_Forest_init,od_Forest_init,.func (PySem.W.fnOf "__init__" "Forest.__init__" (defArgs s_Forest_init) (defBody s_Forest_init) (defScope s_Forest_init) .none kV_Forest_init dc_Forest_init pm_Forest_init an_Forest_init cd_Forest_init ct_Forest_init),sl_Forest_init⟩)
    (c_Forest_init:PySem.W.codeIn K cd_Forest_init "Forest.__init__" = true)
    (k_Forest_init:PySem.W.keepIn K (.ref f_Forest_init) = true)
    (n_Forest_init:PySem.W.isFn K (.ref f_Forest_init) = true)
    (i_Forest_many:PySem.W.findIn K (.ref C_Forest) "many" = some (some (.ref f_Forest_many)))
    (l_Forest_many:K.lookup f_Forest_many = some ⟨oc_Forest_many,od_Forest_many,.func (PySem.W.fnOf "many" "Forest.many" (defArgs s_Forest_many) (defBody s_Forest_many) (defScope s_Forest_many) .none kV_Forest_many dc_Forest_many pm_Forest_many an_Forest_many cd_Forest_many ct_Forest_many),sl_Forest_many⟩)
    (c_Forest_many:PySem.W.codeIn K cd_Forest_many "Forest.many" = true)
    (k_Forest_many:PySem.W.keepIn K (.ref f_Forest_many) = true)
    (n_Forest_many:PySem.W.isFn K (.ref f_Forest_many) = true)
    (i_Forest_left:PySem.W.findIn K (.ref C_Forest) "left" = some (some (.ref f_Forest_left)))
    (l_Forest_left:K.lookup f_Forest_left = some ⟨oc_Forest_left,od_Forest_left,.func (PySem.W.fnOf "left" "Forest.left" (defArgs s_Forest_left) (defBody s_Forest_left) (defScope s_Forest_left) .none kV_Forest_left dc_Forest_left pm_Forest_left an_Forest_left cd_Forest_left ct_Forest_left),sl_Forest_left⟩)
    (c_Forest_left:PySem.W.codeIn K cd_Forest_left "Forest.left" = true)
    (k_Forest_left:PySem.W.keepIn K (.ref f_Forest_left) = true)
    (n_Forest_left:PySem.W.isFn K (.ref f_Forest_left) = true)
    (i_Forest_form:PySem.W.findIn K (.ref C_Forest) "form" = some (some (.ref f_Forest_form)))
    (l_Forest_form:K.lookup f_Forest_form = some ⟨oc_Forest_form,od_Forest_form,.func (PySem.W.fnOf "form" "Forest.form" (defArgs s_Forest_form) (defBody s_Forest_form) (defScope s_Forest_form) .none kV_Forest_form dc_Forest_form pm_Forest_form an_Forest_form cd_Forest_form ct_Forest_form),sl_Forest_form⟩)
    (c_Forest_form:PySem.W.codeIn K cd_Forest_form "Forest.form" = true)
    (k_Forest_form:PySem.W.keepIn K (.ref f_Forest_form) = true)
    (n_Forest_form:PySem.W.isFn K (.ref f_Forest_form) = true)
    (i_Forest_standing:PySem.W.findIn K (.ref C_Forest) "standing" = some (some (.ref f_Forest_standing)))
    (l_Forest_standing:K.lookup f_Forest_standing = some ⟨oc_Forest_standing,od_Forest_standing,.func (PySem.W.fnOf "standing" "Forest.standing" (defArgs s_Forest_standing) (defBody s_Forest_standing) (defScope s_Forest_standing) .none kV_Forest_standing dc_Forest_standing pm_Forest_standing an_Forest_standing cd_Forest_standing ct_Forest_standing),sl_Forest_standing⟩)
    (c_Forest_standing:PySem.W.codeIn K cd_Forest_standing "Forest.standing" = true)
    (k_Forest_standing:PySem.W.keepIn K (.ref f_Forest_standing) = true)
    (n_Forest_standing:PySem.W.isFn K (.ref f_Forest_standing) = true)
    (i_Forest_is_under:PySem.W.findIn K (.ref C_Forest) "is_under" = some (some (.ref f_Forest_is_under)))
    (l_Forest_is_under:K.lookup f_Forest_is_under = some ⟨oc_Forest_is_under,od_Forest_is_under,.func (PySem.W.fnOf "is_under" "Forest.is_under" (defArgs s_Forest_is_under) (defBody s_Forest_is_under) (defScope s_Forest_is_under) .none kV_Forest_is_under dc_Forest_is_under pm_Forest_is_under an_Forest_is_under cd_Forest_is_under ct_Forest_is_under),sl_Forest_is_under⟩)
    (c_Forest_is_under:PySem.W.codeIn K cd_Forest_is_under "Forest.is_under" = true)
    (k_Forest_is_under:PySem.W.keepIn K (.ref f_Forest_is_under) = true)
    (n_Forest_is_under:PySem.W.isFn K (.ref f_Forest_is_under) = true)
    (i_Forest_is_beside:PySem.W.findIn K (.ref C_Forest) "is_beside" = some (some (.ref f_Forest_is_beside)))
    (l_Forest_is_beside:K.lookup f_Forest_is_beside = some ⟨oc_Forest_is_beside,od_Forest_is_beside,.func (PySem.W.fnOf "is_beside" "Forest.is_beside" (defArgs s_Forest_is_beside) (defBody s_Forest_is_beside) (defScope s_Forest_is_beside) .none kV_Forest_is_beside dc_Forest_is_beside pm_Forest_is_beside an_Forest_is_beside cd_Forest_is_beside ct_Forest_is_beside),sl_Forest_is_beside⟩)
    (c_Forest_is_beside:PySem.W.codeIn K cd_Forest_is_beside "Forest.is_beside" = true)
    (k_Forest_is_beside:PySem.W.keepIn K (.ref f_Forest_is_beside) = true)
    (n_Forest_is_beside:PySem.W.isFn K (.ref f_Forest_is_beside) = true)
    (i_Forest_hanging:PySem.W.findIn K (.ref C_Forest) "hanging" = some (some (.ref f_Forest_hanging)))
    (l_Forest_hanging:K.lookup f_Forest_hanging = some ⟨oc_Forest_hanging,od_Forest_hanging,.func (PySem.W.fnOf "hanging" "Forest.hanging" (defArgs s_Forest_hanging) (defBody s_Forest_hanging) (defScope s_Forest_hanging) .none kV_Forest_hanging dc_Forest_hanging pm_Forest_hanging an_Forest_hanging cd_Forest_hanging ct_Forest_hanging),sl_Forest_hanging⟩)
    (c_Forest_hanging:PySem.W.codeIn K cd_Forest_hanging "Forest.hanging" = true)
    (k_Forest_hanging:PySem.W.keepIn K (.ref f_Forest_hanging) = true)
    (n_Forest_hanging:PySem.W.isFn K (.ref f_Forest_hanging) = true)
    (a_Table_init:PySem.W.findIn K (.ref C_Table) "__init__" = some (some (.ref f_Table_init)))
    (l_Table_init:K.lookup f_Table_init = some ⟨oc_Table_init,od_Table_init,.func (PySem.W.fnOf "__init__" "Table.__init__" (defArgs s_Table_init) (defBody s_Table_init) (defScope s_Table_init) .none kV_Table_init dc_Table_init pm_Table_init an_Table_init cd_Table_init ct_Table_init),sl_Table_init⟩)
    (c_Table_init:PySem.W.codeIn K cd_Table_init "Table.__init__" = true)
    (k_Table_init:PySem.W.keepIn K (.ref f_Table_init) = true)
    (n_Table_init:PySem.W.isFn K (.ref f_Table_init) = true)
    (i_Table_many:PySem.W.findIn K (.ref C_Table) "many" = some (some (.ref f_Table_many)))
    (l_Table_many:K.lookup f_Table_many = some ⟨oc_Table_many,od_Table_many,.func (PySem.W.fnOf "many" "Table.many" (defArgs s_Table_many) (defBody s_Table_many) (defScope s_Table_many) .none kV_Table_many dc_Table_many pm_Table_many an_Table_many cd_Table_many ct_Table_many),sl_Table_many⟩)
    (c_Table_many:PySem.W.codeIn K cd_Table_many "Table.many" = true)
    (k_Table_many:PySem.W.keepIn K (.ref f_Table_many) = true)
    (n_Table_many:PySem.W.isFn K (.ref f_Table_many) = true)
    (i_Table_left:PySem.W.findIn K (.ref C_Table) "left" = some (some (.ref f_Table_left)))
    (l_Table_left:K.lookup f_Table_left = some ⟨oc_Table_left,od_Table_left,.func (PySem.W.fnOf "left" "Table.left" (defArgs s_Table_left) (defBody s_Table_left) (defScope s_Table_left) .none kV_Table_left dc_Table_left pm_Table_left an_Table_left cd_Table_left ct_Table_left),sl_Table_left⟩)
    (c_Table_left:PySem.W.codeIn K cd_Table_left "Table.left" = true)
    (k_Table_left:PySem.W.keepIn K (.ref f_Table_left) = true)
    (n_Table_left:PySem.W.isFn K (.ref f_Table_left) = true)
    (i_Table_form:PySem.W.findIn K (.ref C_Table) "form" = some (some (.ref f_Table_form)))
    (l_Table_form:K.lookup f_Table_form = some ⟨oc_Table_form,od_Table_form,.func (PySem.W.fnOf "form" "Table.form" (defArgs s_Table_form) (defBody s_Table_form) (defScope s_Table_form) .none kV_Table_form dc_Table_form pm_Table_form an_Table_form cd_Table_form ct_Table_form),sl_Table_form⟩)
    (c_Table_form:PySem.W.codeIn K cd_Table_form "Table.form" = true)
    (k_Table_form:PySem.W.keepIn K (.ref f_Table_form) = true)
    (n_Table_form:PySem.W.isFn K (.ref f_Table_form) = true)
    (i_Table_is_under:PySem.W.findIn K (.ref C_Table) "is_under" = some (some (.ref f_Table_is_under)))
    (l_Table_is_under:K.lookup f_Table_is_under = some ⟨oc_Table_is_under,od_Table_is_under,.func (PySem.W.fnOf "is_under" "Table.is_under" (defArgs s_Table_is_under) (defBody s_Table_is_under) (defScope s_Table_is_under) .none kV_Table_is_under dc_Table_is_under pm_Table_is_under an_Table_is_under cd_Table_is_under ct_Table_is_under),sl_Table_is_under⟩)
    (c_Table_is_under:PySem.W.codeIn K cd_Table_is_under "Table.is_under" = true)
    (k_Table_is_under:PySem.W.keepIn K (.ref f_Table_is_under) = true)
    (n_Table_is_under:PySem.W.isFn K (.ref f_Table_is_under) = true)
    (i_Table_is_beside:PySem.W.findIn K (.ref C_Table) "is_beside" = some (some (.ref f_Table_is_beside)))
    (l_Table_is_beside:K.lookup f_Table_is_beside = some ⟨oc_Table_is_beside,od_Table_is_beside,.func (PySem.W.fnOf "is_beside" "Table.is_beside" (defArgs s_Table_is_beside) (defBody s_Table_is_beside) (defScope s_Table_is_beside) .none kV_Table_is_beside dc_Table_is_beside pm_Table_is_beside an_Table_is_beside cd_Table_is_beside ct_Table_is_beside),sl_Table_is_beside⟩)
    (c_Table_is_beside:PySem.W.codeIn K cd_Table_is_beside "Table.is_beside" = true)
    (k_Table_is_beside:PySem.W.keepIn K (.ref f_Table_is_beside) = true)
    (n_Table_is_beside:PySem.W.isFn K (.ref f_Table_is_beside) = true)
    (a__law_cell_at:PySem.W.nsIn K mainGlobals "_law_cell_at" = some (some (.ref f__law_cell_at)))
    (l__law_cell_at:K.lookup f__law_cell_at = some ⟨oc__law_cell_at,od__law_cell_at,.func (PySem.W.fnOf "_law_cell_at" "_law_cell_at" (defArgs s__law_cell_at) (defBody s__law_cell_at) (defScope s__law_cell_at) .none kV__law_cell_at dc__law_cell_at pm__law_cell_at an__law_cell_at cd__law_cell_at ct__law_cell_at),sl__law_cell_at⟩)
    (c__law_cell_at:PySem.W.codeIn K cd__law_cell_at "_law_cell_at" = true)
    (k__law_cell_at:PySem.W.keepIn K (.ref f__law_cell_at) = true)
    (a__law_mix:PySem.W.nsIn K mainGlobals "_law_mix" = some (some (.ref f__law_mix)))
    (l__law_mix:K.lookup f__law_mix = some ⟨oc__law_mix,od__law_mix,.func (PySem.W.fnOf "_law_mix" "_law_mix" (defArgs s__law_mix) (defBody s__law_mix) (defScope s__law_mix) .none kV__law_mix dc__law_mix pm__law_mix an__law_mix cd__law_mix ct__law_mix),sl__law_mix⟩)
    (c__law_mix:PySem.W.codeIn K cd__law_mix "_law_mix" = true)
    (k__law_mix:PySem.W.keepIn K (.ref f__law_mix) = true)
    (a__law_how_many:PySem.W.nsIn K mainGlobals "_law_how_many" = some (some (.ref f__law_how_many)))
    (l__law_how_many:K.lookup f__law_how_many = some ⟨oc__law_how_many,od__law_how_many,.func (PySem.W.fnOf "_law_how_many" "_law_how_many" (defArgs s__law_how_many) (defBody s__law_how_many) (defScope s__law_how_many) .none kV__law_how_many dc__law_how_many pm__law_how_many an__law_how_many cd__law_how_many ct__law_how_many),sl__law_how_many⟩)
    (c__law_how_many:PySem.W.codeIn K cd__law_how_many "_law_how_many" = true)
    (k__law_how_many:PySem.W.keepIn K (.ref f__law_how_many) = true)
    (a__law_marks:PySem.W.nsIn K mainGlobals "_law_marks" = some (some (.ref f__law_marks)))
    (l__law_marks:K.lookup f__law_marks = some ⟨oc__law_marks,od__law_marks,.func (PySem.W.fnOf "_law_marks" "_law_marks" (defArgs s__law_marks) (defBody s__law_marks) (defScope s__law_marks) .none kV__law_marks dc__law_marks pm__law_marks an__law_marks cd__law_marks ct__law_marks),sl__law_marks⟩)
    (c__law_marks:PySem.W.codeIn K cd__law_marks "_law_marks" = true)
    (k__law_marks:PySem.W.keepIn K (.ref f__law_marks) = true)
    (a__law_pick:PySem.W.nsIn K mainGlobals "_law_pick" = some (some (.ref f__law_pick)))
    (l__law_pick:K.lookup f__law_pick = some ⟨oc__law_pick,od__law_pick,.func (PySem.W.fnOf "_law_pick" "_law_pick" (defArgs s__law_pick) (defBody s__law_pick) (defScope s__law_pick) .none kV__law_pick dc__law_pick pm__law_pick an__law_pick cd__law_pick ct__law_pick),sl__law_pick⟩)
    (c__law_pick:PySem.W.codeIn K cd__law_pick "_law_pick" = true)
    (k__law_pick:PySem.W.keepIn K (.ref f__law_pick) = true)
    (a__law_cells:PySem.W.nsIn K mainGlobals "_law_cells" = some (some (.ref f__law_cells)))
    (l__law_cells:K.lookup f__law_cells = some ⟨oc__law_cells,od__law_cells,.func (PySem.W.fnOf "_law_cells" "_law_cells" (defArgs s__law_cells) (defBody s__law_cells) (defScope s__law_cells) .none kV__law_cells dc__law_cells pm__law_cells an__law_cells cd__law_cells ct__law_cells),sl__law_cells⟩)
    (c__law_cells:PySem.W.codeIn K cd__law_cells "_law_cells" = true)
    (k__law_cells:PySem.W.keepIn K (.ref f__law_cells) = true)
    (a__law_nodes:PySem.W.nsIn K mainGlobals "_law_nodes" = some (some (.ref f__law_nodes)))
    (l__law_nodes:K.lookup f__law_nodes = some ⟨oc__law_nodes,od__law_nodes,.func (PySem.W.fnOf "_law_nodes" "_law_nodes" (defArgs s__law_nodes) (defBody s__law_nodes) (defScope s__law_nodes) .none kV__law_nodes dc__law_nodes pm__law_nodes an__law_nodes cd__law_nodes ct__law_nodes),sl__law_nodes⟩)
    (c__law_nodes:PySem.W.codeIn K cd__law_nodes "_law_nodes" = true)
    (k__law_nodes:PySem.W.keepIn K (.ref f__law_nodes) = true)
    (a__law_lines:PySem.W.nsIn K mainGlobals "_law_lines" = some (some (.ref f__law_lines)))
    (l__law_lines:K.lookup f__law_lines = some ⟨oc__law_lines,od__law_lines,.func (PySem.W.fnOf "_law_lines" "_law_lines" (defArgs s__law_lines) (defBody s__law_lines) (defScope s__law_lines) .none kV__law_lines dc__law_lines pm__law_lines an__law_lines cd__law_lines ct__law_lines),sl__law_lines⟩)
    (c__law_lines:PySem.W.codeIn K cd__law_lines "_law_lines" = true)
    (k__law_lines:PySem.W.keepIn K (.ref f__law_lines) = true)
    (a__law_some:PySem.W.nsIn K mainGlobals "_law_some" = some (some (.ref f__law_some)))
    (l__law_some:K.lookup f__law_some = some ⟨oc__law_some,od__law_some,.func (PySem.W.fnOf "_law_some" "_law_some" (defArgs s__law_some) (defBody s__law_some) (defScope s__law_some) .none kV__law_some dc__law_some pm__law_some an__law_some cd__law_some ct__law_some),sl__law_some⟩)
    (c__law_some:PySem.W.codeIn K cd__law_some "_law_some" = true)
    (k__law_some:PySem.W.keepIn K (.ref f__law_some) = true)
    (a__law_table_by:PySem.W.nsIn K mainGlobals "_law_table_by" = some (some (.ref f__law_table_by)))
    (l__law_table_by:K.lookup f__law_table_by = some ⟨oc__law_table_by,od__law_table_by,.func (PySem.W.fnOf "_law_table_by" "_law_table_by" (defArgs s__law_table_by) (defBody s__law_table_by) (defScope s__law_table_by) .none kV__law_table_by dc__law_table_by pm__law_table_by an__law_table_by cd__law_table_by ct__law_table_by),sl__law_table_by⟩)
    (c__law_table_by:PySem.W.codeIn K cd__law_table_by "_law_table_by" = true)
    (k__law_table_by:PySem.W.keepIn K (.ref f__law_table_by) = true)
    (a__law_thing:PySem.W.nsIn K mainGlobals "_law_thing" = some (some (.ref f__law_thing)))
    (l__law_thing:K.lookup f__law_thing = some ⟨oc__law_thing,od__law_thing,.func (PySem.W.fnOf "_law_thing" "_law_thing" (defArgs s__law_thing) (defBody s__law_thing) (defScope s__law_thing) .none kV__law_thing dc__law_thing pm__law_thing an__law_thing cd__law_thing ct__law_thing),sl__law_thing⟩)
    (c__law_thing:PySem.W.codeIn K cd__law_thing "_law_thing" = true)
    (k__law_thing:PySem.W.keepIn K (.ref f__law_thing) = true)
    (a__law_spots:PySem.W.nsIn K mainGlobals "_law_spots" = some (some (.ref f__law_spots)))
    (l__law_spots:K.lookup f__law_spots = some ⟨oc__law_spots,od__law_spots,.func (PySem.W.fnOf "_law_spots" "_law_spots" (defArgs s__law_spots) (defBody s__law_spots) (defScope s__law_spots) .none kV__law_spots dc__law_spots pm__law_spots an__law_spots cd__law_spots ct__law_spots),sl__law_spots⟩)
    (c__law_spots:PySem.W.codeIn K cd__law_spots "_law_spots" = true)
    (k__law_spots:PySem.W.keepIn K (.ref f__law_spots) = true)
    (a__law_above:PySem.W.nsIn K mainGlobals "_law_above" = some (some (.ref f__law_above)))
    (l__law_above:K.lookup f__law_above = some ⟨oc__law_above,od__law_above,.func (PySem.W.fnOf "_law_above" "_law_above" (defArgs s__law_above) (defBody s__law_above) (defScope s__law_above) .none kV__law_above dc__law_above pm__law_above an__law_above cd__law_above ct__law_above),sl__law_above⟩)
    (c__law_above:PySem.W.codeIn K cd__law_above "_law_above" = true)
    (k__law_above:PySem.W.keepIn K (.ref f__law_above) = true)
    (a__law_pair:PySem.W.nsIn K mainGlobals "_law_pair" = some (some (.ref f__law_pair)))
    (l__law_pair:K.lookup f__law_pair = some ⟨oc__law_pair,od__law_pair,.func (PySem.W.fnOf "_law_pair" "_law_pair" (defArgs s__law_pair) (defBody s__law_pair) (defScope s__law_pair) .none kV__law_pair dc__law_pair pm__law_pair an__law_pair cd__law_pair ct__law_pair),sl__law_pair⟩)
    (c__law_pair:PySem.W.codeIn K cd__law_pair "_law_pair" = true)
    (k__law_pair:PySem.W.keepIn K (.ref f__law_pair) = true)
    (a__law_due:PySem.W.nsIn K mainGlobals "_law_due" = some (some (.ref f__law_due)))
    (l__law_due:K.lookup f__law_due = some ⟨oc__law_due,od__law_due,.func (PySem.W.fnOf "_law_due" "_law_due" (defArgs s__law_due) (defBody s__law_due) (defScope s__law_due) .none kV__law_due dc__law_due pm__law_due an__law_due cd__law_due ct__law_due),sl__law_due⟩)
    (c__law_due:PySem.W.codeIn K cd__law_due "_law_due" = true)
    (k__law_due:PySem.W.keepIn K (.ref f__law_due) = true)
    (a_law:PySem.W.nsIn K mainGlobals "law" = some (some (.ref f_law)))
    (l_law:K.lookup f_law = some ⟨oc_law,od_law,.func (PySem.W.fnOf "law" "law" (defArgs s_law) (defBody s_law) (defScope s_law) .none kV_law dc_law pm_law an_law cd_law ct_law),sl_law⟩)
    (c_law:PySem.W.codeIn K cd_law "law" = true)
    (k_law:PySem.W.keepIn K (.ref f_law) = true)
    (z_all:PySem.W.nsIn K mainGlobals "all" = some none)
    (z_any:PySem.W.nsIn K mainGlobals "any" = some none)
    (z_bool:PySem.W.nsIn K mainGlobals "bool" = some none)
    (z_dict:PySem.W.nsIn K mainGlobals "dict" = some none)
    (z_enumerate:PySem.W.nsIn K mainGlobals "enumerate" = some none)
    (z_int:PySem.W.nsIn K mainGlobals "int" = some none)
    (z_isinstance:PySem.W.nsIn K mainGlobals "isinstance" = some none)
    (z_len:PySem.W.nsIn K mainGlobals "len" = some none)
    (z_list:PySem.W.nsIn K mainGlobals "list" = some none)
    (z_max:PySem.W.nsIn K mainGlobals "max" = some none)
    (z_min:PySem.W.nsIn K mainGlobals "min" = some none)
    (z_range:PySem.W.nsIn K mainGlobals "range" = some none)
    (z_str:PySem.W.nsIn K mainGlobals "str" = some none)
    (z_tuple:PySem.W.nsIn K mainGlobals "tuple" = some none)
    (z_zip:PySem.W.nsIn K mainGlobals "zip" = some none)
    (g_LETTERS:PySem.W.nsIn K mainGlobals "LETTERS" = some (some (.str LET tk_LETTERS)))
    (g_LONGEST_MARK:PySem.W.nsIn K mainGlobals "LONGEST_MARK" = some (some (.int 8 tk_LONGEST_MARK)))
    (g_MOST_IN_ROW:PySem.W.nsIn K mainGlobals "MOST_IN_ROW" = some (some (.int 40 tk_MOST_IN_ROW)))
    (g_MOST_NODES:PySem.W.nsIn K mainGlobals "MOST_NODES" = some (some (.int 40 tk_MOST_NODES)))
    (g_DEEPEST:PySem.W.nsIn K mainGlobals "DEEPEST" = some (some (.int 12 tk_DEEPEST)))
    (g_MOST_LINES:PySem.W.nsIn K mainGlobals "MOST_LINES" = some (some (.int 12 tk_MOST_LINES)))
    (g_MOST_COLUMNS:PySem.W.nsIn K mainGlobals "MOST_COLUMNS" = some (some (.int 12 tk_MOST_COLUMNS)))
    (x1_NoPlace:PySem.W.excIn K C_NoPlace [.type "ValueError",.type "Exception",.type "BaseException",.type "object"] "ValueError.__new__" = true)
    (x2_NoPlace:PySem.W.findIn K (.ref C_NoPlace) "__getattribute__" = some (some (.builtin "BaseException.__getattribute__")))
    (x3_NoPlace:PySem.W.findIn K (.ref C_NoPlace) "__getattr__" = some none)
    (x4_NoPlace:PySem.W.findIn K (.ref C_NoPlace) "__class__" = some (some (.builtin "object.__class__")))
    (x5_NoPlace:PySem.W.mroIn K C_NoPlace (.type "object") = some true)
    (x6_NoPlace:PySem.W.subIn K (.ref C_NoPlace) (.type "BaseException") = some true)
    (x7_NoPlace:PySem.W.clsIn K C_NoPlace = some cd_NoPlace)
    (x1_NoThing:PySem.W.excIn K C_NoThing [.type "ValueError",.type "Exception",.type "BaseException",.type "object"] "ValueError.__new__" = true)
    (x2_NoThing:PySem.W.findIn K (.ref C_NoThing) "__getattribute__" = some (some (.builtin "BaseException.__getattribute__")))
    (x3_NoThing:PySem.W.findIn K (.ref C_NoThing) "__getattr__" = some none)
    (x4_NoThing:PySem.W.findIn K (.ref C_NoThing) "__class__" = some (some (.builtin "object.__class__")))
    (x5_NoThing:PySem.W.mroIn K C_NoThing (.type "object") = some true)
    (x6_NoThing:PySem.W.subIn K (.ref C_NoThing) (.type "BaseException") = some true)
    (x7_NoThing:PySem.W.clsIn K C_NoThing = some cd_NoThing)
    (r1_Forest:PySem.W.plainGet K C_Forest Str.empty = true)
    (r2_Forest:PySem.W.hasDictIn K C_Forest = true)
    (r3_Forest:PySem.W.plainOver K C_Forest = true)
    (r4_Forest:PySem.W.findIn K (.ref C_Forest) "__setattr__" = some (some (.builtin "object.__setattr__")))
    (n_Forest_nodes:PySem.W.findIn K (.ref C_Forest) "nodes" = some none)
    (n_Forest_spot_marks:PySem.W.findIn K (.ref C_Forest) "spot_marks" = some none)
    (r6_Forest:PySem.W.findIn K (.ref C_Forest) "__class__" = some (some (.builtin "object.__class__")))
    (r9_Forest:PySem.W.mroIn K C_Forest (.type "object") = some true)
    (r1_Row:PySem.W.plainGet K C_Row Str.empty = true)
    (r2_Row:PySem.W.hasDictIn K C_Row = true)
    (r3_Row:PySem.W.plainOver K C_Row = true)
    (r4_Row:PySem.W.findIn K (.ref C_Row) "__setattr__" = some (some (.builtin "object.__setattr__")))
    (n_Row_spot_marks:PySem.W.findIn K (.ref C_Row) "spot_marks" = some none)
    (r6_Row:PySem.W.findIn K (.ref C_Row) "__class__" = some (some (.builtin "object.__class__")))
    (r9_Row:PySem.W.mroIn K C_Row (.type "object") = some true)
    (r1_Table:PySem.W.plainGet K C_Table Str.empty = true)
    (r2_Table:PySem.W.hasDictIn K C_Table = true)
    (r3_Table:PySem.W.plainOver K C_Table = true)
    (r4_Table:PySem.W.findIn K (.ref C_Table) "__setattr__" = some (some (.builtin "object.__setattr__")))
    (n_Table_columns:PySem.W.findIn K (.ref C_Table) "columns" = some none)
    (n_Table_lines:PySem.W.findIn K (.ref C_Table) "lines" = some none)
    (n_Table_spot_marks:PySem.W.findIn K (.ref C_Table) "spot_marks" = some none)
    (r6_Table:PySem.W.findIn K (.ref C_Table) "__class__" = some (some (.builtin "object.__class__")))
    (r9_Table:PySem.W.mroIn K C_Table (.type "object") = some true)
    (r7:PySem.W.specialIn K (.builtin "object.__class__") "__get__" = some (some (.builtin "getset_descriptor.__get__")))
    (r8:PySem.W.takesIn K (.builtin "object.__class__") = some true)
    (m1_Forest:PySem.W.makesIn K C_Forest = true)
    (m2_Forest:PySem.W.keepIn K (.ref C_Forest) = true)
    (m1_Row:PySem.W.makesIn K C_Row = true)
    (m2_Row:PySem.W.keepIn K (.ref C_Row) = true)
    (m1_Table:PySem.W.makesIn K C_Table = true)
    (m2_Table:PySem.W.keepIn K (.ref C_Table) = true)
    (th1_Thing:PySem.W.specialIn K (.ref C_Thing) "__getattribute__" = some (some (.builtin "type.__getattribute__")))
    (th2_Thing:PySem.W.readsIn K C_Thing (.type "type") = true) :
    ∃ fd:FuncData,(∀ (s:Shared) (v:Value),BindsTo s fd ⟨[v],[]⟩ [("_law_script",v)]) ∧ ∀ base:Heap,K.In base → base.Ns mainGlobals mg → FnOk l.prog w K mg base CX0 7 fa fd ["_law_script"] (sp_law K):=by
  have e:=hfa.symm.trans (PySem.W.mg_of X G a_law)
  cases e
  have T:Txt K mg ⟨C_ShrinkError,C_NoThing,C_NoPlace,C_Thing,C_Row,C_Forest,C_Table⟩:=⟨PySem.W.mg_none_of X G z_all,PySem.W.mg_none_of X G z_any,PySem.W.mg_none_of X G z_bool,PySem.W.mg_none_of X G z_dict,PySem.W.mg_none_of X G z_enumerate,PySem.W.mg_none_of X G z_int,PySem.W.mg_none_of X G z_isinstance,PySem.W.mg_none_of X G z_len,PySem.W.mg_none_of X G z_list,PySem.W.mg_none_of X G z_max,PySem.W.mg_none_of X G z_min,PySem.W.mg_none_of X G z_range,PySem.W.mg_none_of X G z_str,PySem.W.mg_none_of X G z_tuple,PySem.W.mg_none_of X G z_zip,PySem.W.mg_of X G a_ShrinkError,PySem.W.mg_of X G a_NoThing,PySem.W.mg_of X G a_NoPlace,PySem.W.mg_of X G a_Thing,PySem.W.mg_of X G a_Row,PySem.W.mg_of X G a_Forest,PySem.W.mg_of X G a_Table,⟨_,PySem.W.mg_of X G g_LETTERS⟩,⟨_,PySem.W.mg_of X G g_LONGEST_MARK⟩,⟨_,PySem.W.mg_of X G g_MOST_IN_ROW⟩,⟨_,PySem.W.mg_of X G g_MOST_NODES⟩,⟨_,PySem.W.mg_of X G g_DEEPEST⟩,⟨_,PySem.W.mg_of X G g_MOST_LINES⟩,⟨_,PySem.W.mg_of X G g_MOST_COLUMNS⟩,⟨PySem.W.mg_of X G a_NoPlace,a_NoPlace,x1_NoPlace⟩,⟨x2_NoPlace,x3_NoPlace,x4_NoPlace,x5_NoPlace,x6_NoPlace,by rw [x7_NoPlace]; rfl⟩,⟨PySem.W.mg_of X G a_NoThing,a_NoThing,x1_NoThing⟩,⟨x2_NoThing,x3_NoThing,x4_NoThing,x5_NoThing,x6_NoThing,by rw [x7_NoThing]; rfl⟩,⟨r1_Forest,r2_Forest,r3_Forest,r4_Forest⟩,n_Forest_nodes,n_Forest_spot_marks,r6_Forest,r9_Forest,⟨r1_Row,r2_Row,r3_Row,r4_Row⟩,n_Row_spot_marks,r6_Row,r9_Row,⟨r1_Table,r2_Table,r3_Table,r4_Table⟩,n_Table_columns,n_Table_lines,n_Table_spot_marks,r6_Table,r9_Table,r7,r8⟩
  have F_is_whole:=fun_mk (st:=s_is_whole) l_is_whole c_is_whole k_is_whole
  have D_is_whole:Def K mg "is_whole" s_is_whole ["thing"] f_is_whole _:=⟨F_is_whole,PySem.W.mg_of X G a_is_whole,F_is_whole.binds (ps:=["thing"]) fun _ _ _ _ _ _ us hl=>match us,hl with | [_],_=>rfl⟩
  have F_is_mark:=fun_mk (st:=s_is_mark) l_is_mark c_is_mark k_is_mark
  have D_is_mark:Def K mg "is_mark" s_is_mark ["thing"] f_is_mark _:=⟨F_is_mark,PySem.W.mg_of X G a_is_mark,F_is_mark.binds (ps:=["thing"]) fun _ _ _ _ _ _ us hl=>match us,hl with | [_],_=>rfl⟩
  have F_check_list:=fun_mk (st:=s_check_list) l_check_list c_check_list k_check_list
  have D_check_list:Def K mg "check_list" s_check_list ["thing","most"] f_check_list _:=⟨F_check_list,PySem.W.mg_of X G a_check_list,F_check_list.binds (ps:=["thing","most"]) fun _ _ _ _ _ _ us hl=>match us,hl with | [_,_],_=>rfl⟩
  have F_check_marks:=fun_mk (st:=s_check_marks) l_check_marks c_check_marks k_check_marks
  have D_check_marks:Def K mg "check_marks" s_check_marks ["marks","most"] f_check_marks _:=⟨F_check_marks,PySem.W.mg_of X G a_check_marks,F_check_marks.binds (ps:=["marks","most"]) fun _ _ _ _ _ _ us hl=>match us,hl with | [_,_],_=>rfl⟩
  have F_check_node:=fun_mk (st:=s_check_node) l_check_node c_check_node k_check_node
  have D_check_node:Def K mg "check_node" s_check_node ["node","deepest"] f_check_node _:=⟨F_check_node,PySem.W.mg_of X G a_check_node,F_check_node.binds (ps:=["node","deepest"]) fun _ _ _ _ _ _ us hl=>match us,hl with | [_,_],_=>rfl⟩
  have F_check_nodes:=fun_mk (st:=s_check_nodes) l_check_nodes c_check_nodes k_check_nodes
  have D_check_nodes:Def K mg "check_nodes" s_check_nodes ["nodes"] f_check_nodes _:=⟨F_check_nodes,PySem.W.mg_of X G a_check_nodes,F_check_nodes.binds (ps:=["nodes"]) fun _ _ _ _ _ _ us hl=>match us,hl with | [_],_=>rfl⟩
  have F_check_lines:=fun_mk (st:=s_check_lines) l_check_lines c_check_lines k_check_lines
  have D_check_lines:Def K mg "check_lines" s_check_lines ["lines"] f_check_lines _:=⟨F_check_lines,PySem.W.mg_of X G a_check_lines,F_check_lines.binds (ps:=["lines"]) fun _ _ _ _ _ _ us hl=>match us,hl with | [_],_=>rfl⟩
  have F_check_places:=fun_mk (st:=s_check_places) l_check_places c_check_places k_check_places
  have D_check_places:Def K mg "check_places" s_check_places ["places","many"] f_check_places _:=⟨F_check_places,PySem.W.mg_of X G a_check_places,F_check_places.binds (ps:=["places","many"]) fun _ _ _ _ _ _ us hl=>match us,hl with | [_,_],_=>rfl⟩
  have F_marks_at:=fun_mk (st:=s_marks_at) l_marks_at c_marks_at k_marks_at
  have D_marks_at:Def K mg "marks_at" s_marks_at ["marks","places"] f_marks_at _:=⟨F_marks_at,PySem.W.mg_of X G a_marks_at,F_marks_at.binds (ps:=["marks","places"]) fun _ _ _ _ _ _ us hl=>match us,hl with | [_,_],_=>rfl⟩
  have F_places_of:=fun_mk (st:=s_places_of) l_places_of c_places_of k_places_of
  have D_places_of:Def K mg "places_of" s_places_of ["marks","mark"] f_places_of _:=⟨F_places_of,PySem.W.mg_of X G a_places_of,F_places_of.binds (ps:=["marks","mark"]) fun _ _ _ _ _ _ us hl=>match us,hl with | [_,_],_=>rfl⟩
  have F_stands_ahead:=fun_mk (st:=s_stands_ahead) l_stands_ahead c_stands_ahead k_stands_ahead
  have D_stands_ahead:Def K mg "stands_ahead" s_stands_ahead ["marks","one","other"] f_stands_ahead _:=⟨F_stands_ahead,PySem.W.mg_of X G a_stands_ahead,F_stands_ahead.binds (ps:=["marks","one","other"]) fun _ _ _ _ _ _ us hl=>match us,hl with | [_,_,_],_=>rfl⟩
  have F_stands_right_ahead:=fun_mk (st:=s_stands_right_ahead) l_stands_right_ahead c_stands_right_ahead k_stands_right_ahead
  have D_stands_right_ahead:Def K mg "stands_right_ahead" s_stands_right_ahead ["marks","one","other"] f_stands_right_ahead _:=⟨F_stands_right_ahead,PySem.W.mg_of X G a_stands_right_ahead,F_stands_right_ahead.binds (ps:=["marks","one","other"]) fun _ _ _ _ _ _ us hl=>match us,hl with | [_,_,_],_=>rfl⟩
  have F_Thing_init:=fun_mk (st:=s_Thing_init) l_Thing_init c_Thing_init k_Thing_init
  have B_Thing_init:Binds K _ ["self","spot_marks"] []:=F_Thing_init.binds (ps:=["self","spot_marks"]) fun _ _ _ _ _ _ us hl=>match us,hl with | [_,_],_=>rfl
  have F_Thing_is_before:=fun_mk (st:=s_Thing_is_before) l_Thing_is_before c_Thing_is_before k_Thing_is_before
  have B_Thing_is_before:Binds K _ ["self","one","other"] []:=F_Thing_is_before.binds (ps:=["self","one","other"]) fun _ _ _ _ _ _ us hl=>match us,hl with | [_,_,_],_=>rfl
  have F_Row_init:=fun_mk (st:=s_Row_init) l_Row_init c_Row_init k_Row_init
  have B_Row_init:Binds K _ ["self","marks"] []:=F_Row_init.binds (ps:=["self","marks"]) fun _ _ _ _ _ _ us hl=>match us,hl with | [_,_],_=>rfl
  have F_Row_many:=fun_mk (st:=s_Row_many) l_Row_many c_Row_many k_Row_many
  have B_Row_many:Binds K _ ["self"] []:=F_Row_many.binds (ps:=["self"]) fun _ _ _ _ _ _ us hl=>match us,hl with | [_],_=>rfl
  have F_Row_left:=fun_mk (st:=s_Row_left) l_Row_left c_Row_left k_Row_left
  have B_Row_left:Binds K _ ["self","places"] []:=F_Row_left.binds (ps:=["self","places"]) fun _ _ _ _ _ _ us hl=>match us,hl with | [_,_],_=>rfl
  have F_Row_form:=fun_mk (st:=s_Row_form) l_Row_form c_Row_form k_Row_form
  have B_Row_form:Binds K _ ["self"] []:=F_Row_form.binds (ps:=["self"]) fun _ _ _ _ _ _ us hl=>match us,hl with | [_],_=>rfl
  have F_Row_is_under:=fun_mk (st:=s_Row_is_under) l_Row_is_under c_Row_is_under k_Row_is_under
  have B_Row_is_under:Binds K _ ["self","one","other"] []:=F_Row_is_under.binds (ps:=["self","one","other"]) fun _ _ _ _ _ _ us hl=>match us,hl with | [_,_,_],_=>rfl
  have F_Row_is_beside:=fun_mk (st:=s_Row_is_beside) l_Row_is_beside c_Row_is_beside k_Row_is_beside
  have B_Row_is_beside:Binds K _ ["self","one","other"] []:=F_Row_is_beside.binds (ps:=["self","one","other"]) fun _ _ _ _ _ _ us hl=>match us,hl with | [_,_,_],_=>rfl
  have F_Forest_init:=fun_mk (st:=s_Forest_init) l_Forest_init c_Forest_init k_Forest_init
  have B_Forest_init:Binds K _ ["self","nodes"] []:=F_Forest_init.binds (ps:=["self","nodes"]) fun _ _ _ _ _ _ us hl=>match us,hl with | [_,_],_=>rfl
  have F_Forest_many:=fun_mk (st:=s_Forest_many) l_Forest_many c_Forest_many k_Forest_many
  have B_Forest_many:Binds K _ ["self"] []:=F_Forest_many.binds (ps:=["self"]) fun _ _ _ _ _ _ us hl=>match us,hl with | [_],_=>rfl
  have F_Forest_left:=fun_mk (st:=s_Forest_left) l_Forest_left c_Forest_left k_Forest_left
  have B_Forest_left:Binds K _ ["self","places"] []:=F_Forest_left.binds (ps:=["self","places"]) fun _ _ _ _ _ _ us hl=>match us,hl with | [_,_],_=>rfl
  have F_Forest_form:=fun_mk (st:=s_Forest_form) l_Forest_form c_Forest_form k_Forest_form
  have B_Forest_form:Binds K _ ["self"] []:=F_Forest_form.binds (ps:=["self"]) fun _ _ _ _ _ _ us hl=>match us,hl with | [_],_=>rfl
  have F_Forest_standing:=fun_mk (st:=s_Forest_standing) l_Forest_standing c_Forest_standing k_Forest_standing
  have B_Forest_standing:Binds K _ ["self","mark"] []:=F_Forest_standing.binds (ps:=["self","mark"]) fun _ _ _ _ _ _ us hl=>match us,hl with | [_,_],_=>rfl
  have F_Forest_is_under:=fun_mk (st:=s_Forest_is_under) l_Forest_is_under c_Forest_is_under k_Forest_is_under
  have B_Forest_is_under:Binds K _ ["self","one","other"] []:=F_Forest_is_under.binds (ps:=["self","one","other"]) fun _ _ _ _ _ _ us hl=>match us,hl with | [_,_,_],_=>rfl
  have F_Forest_is_beside:=fun_mk (st:=s_Forest_is_beside) l_Forest_is_beside c_Forest_is_beside k_Forest_is_beside
  have B_Forest_is_beside:Binds K _ ["self","one","other"] []:=F_Forest_is_beside.binds (ps:=["self","one","other"]) fun _ _ _ _ _ _ us hl=>match us,hl with | [_,_,_],_=>rfl
  have F_Forest_hanging:=fun_mk (st:=s_Forest_hanging) l_Forest_hanging c_Forest_hanging k_Forest_hanging
  have B_Forest_hanging:Binds K _ ["self","place"] []:=F_Forest_hanging.binds (ps:=["self","place"]) fun _ _ _ _ _ _ us hl=>match us,hl with | [_,_],_=>rfl
  have F_Table_init:=fun_mk (st:=s_Table_init) l_Table_init c_Table_init k_Table_init
  have B_Table_init:Binds K _ ["self","lines"] []:=F_Table_init.binds (ps:=["self","lines"]) fun _ _ _ _ _ _ us hl=>match us,hl with | [_,_],_=>rfl
  have F_Table_many:=fun_mk (st:=s_Table_many) l_Table_many c_Table_many k_Table_many
  have B_Table_many:Binds K _ ["self"] []:=F_Table_many.binds (ps:=["self"]) fun _ _ _ _ _ _ us hl=>match us,hl with | [_],_=>rfl
  have F_Table_left:=fun_mk (st:=s_Table_left) l_Table_left c_Table_left k_Table_left
  have B_Table_left:Binds K _ ["self","places"] []:=F_Table_left.binds (ps:=["self","places"]) fun _ _ _ _ _ _ us hl=>match us,hl with | [_,_],_=>rfl
  have F_Table_form:=fun_mk (st:=s_Table_form) l_Table_form c_Table_form k_Table_form
  have B_Table_form:Binds K _ ["self"] []:=F_Table_form.binds (ps:=["self"]) fun _ _ _ _ _ _ us hl=>match us,hl with | [_],_=>rfl
  have F_Table_is_under:=fun_mk (st:=s_Table_is_under) l_Table_is_under c_Table_is_under k_Table_is_under
  have B_Table_is_under:Binds K _ ["self","one","other"] []:=F_Table_is_under.binds (ps:=["self","one","other"]) fun _ _ _ _ _ _ us hl=>match us,hl with | [_,_,_],_=>rfl
  have F_Table_is_beside:=fun_mk (st:=s_Table_is_beside) l_Table_is_beside c_Table_is_beside k_Table_is_beside
  have B_Table_is_beside:Binds K _ ["self","one","other"] []:=F_Table_is_beside.binds (ps:=["self","one","other"]) fun _ _ _ _ _ _ us hl=>match us,hl with | [_,_,_],_=>rfl
  have F__law_cell_at:=fun_mk (st:=s__law_cell_at) l__law_cell_at c__law_cell_at k__law_cell_at
  have D__law_cell_at:Def K mg "_law_cell_at" s__law_cell_at ["_law_script","_law_k"] f__law_cell_at _:=⟨F__law_cell_at,PySem.W.mg_of X G a__law_cell_at,F__law_cell_at.binds (ps:=["_law_script","_law_k"]) fun _ _ _ _ _ _ us hl=>match us,hl with | [_,_],_=>rfl⟩
  have F__law_mix:=fun_mk (st:=s__law_mix) l__law_mix c__law_mix k__law_mix
  have D__law_mix:Def K mg "_law_mix" s__law_mix ["_law_seed","_law_k"] f__law_mix _:=⟨F__law_mix,PySem.W.mg_of X G a__law_mix,F__law_mix.binds (ps:=["_law_seed","_law_k"]) fun _ _ _ _ _ _ us hl=>match us,hl with | [_,_],_=>rfl⟩
  have F__law_how_many:=fun_mk (st:=s__law_how_many) l__law_how_many c__law_how_many k__law_how_many
  have D__law_how_many:Def K mg "_law_how_many" s__law_how_many ["_law_number"] f__law_how_many _:=⟨F__law_how_many,PySem.W.mg_of X G a__law_how_many,F__law_how_many.binds (ps:=["_law_number"]) fun _ _ _ _ _ _ us hl=>match us,hl with | [_],_=>rfl⟩
  have F__law_marks:=fun_mk (st:=s__law_marks) l__law_marks c__law_marks k__law_marks
  have D__law_marks:Def K mg "_law_marks" s__law_marks ["_law_cell","_law_many"] f__law_marks _:=⟨F__law_marks,PySem.W.mg_of X G a__law_marks,F__law_marks.binds (ps:=["_law_cell","_law_many"]) fun _ _ _ _ _ _ us hl=>match us,hl with | [_,_],_=>rfl⟩
  have F__law_pick:=fun_mk (st:=s__law_pick) l__law_pick c__law_pick k__law_pick
  have D__law_pick:Def K mg "_law_pick" s__law_pick ["_law_cell","_law_marks_here"] f__law_pick _:=⟨F__law_pick,PySem.W.mg_of X G a__law_pick,F__law_pick.binds (ps:=["_law_cell","_law_marks_here"]) fun _ _ _ _ _ _ us hl=>match us,hl with | [_,_],_=>rfl⟩
  have F__law_cells:=fun_mk (st:=s__law_cells) l__law_cells c__law_cells k__law_cells
  have D__law_cells:Def K mg "_law_cells" s__law_cells ["_law_script","_law_begin","_law_seed","_law_many"] f__law_cells _:=⟨F__law_cells,PySem.W.mg_of X G a__law_cells,F__law_cells.binds (ps:=["_law_script","_law_begin","_law_seed","_law_many"]) fun _ _ _ _ _ _ us hl=>match us,hl with | [_,_,_,_],_=>rfl⟩
  have F__law_nodes:=fun_mk (st:=s__law_nodes) l__law_nodes c__law_nodes k__law_nodes
  have D__law_nodes:Def K mg "_law_nodes" s__law_nodes ["_law_cells_here","_law_marks_here"] f__law_nodes _:=⟨F__law_nodes,PySem.W.mg_of X G a__law_nodes,F__law_nodes.binds (ps:=["_law_cells_here","_law_marks_here"]) fun _ _ _ _ _ _ us hl=>match us,hl with | [_,_],_=>rfl⟩
  have F__law_lines:=fun_mk (st:=s__law_lines) l__law_lines c__law_lines k__law_lines
  have D__law_lines:Def K mg "_law_lines" s__law_lines ["_law_cells_here","_law_marks_here","_law_wide"] f__law_lines _:=⟨F__law_lines,PySem.W.mg_of X G a__law_lines,F__law_lines.binds (ps:=["_law_cells_here","_law_marks_here","_law_wide"]) fun _ _ _ _ _ _ us hl=>match us,hl with | [_,_,_],_=>rfl⟩
  have F__law_some:=fun_mk (st:=s__law_some) l__law_some c__law_some k__law_some
  have D__law_some:Def K mg "_law_some" s__law_some ["_law_cell","_law_many"] f__law_some _:=⟨F__law_some,PySem.W.mg_of X G a__law_some,F__law_some.binds (ps:=["_law_cell","_law_many"]) fun _ _ _ _ _ _ us hl=>match us,hl with | [_,_],_=>rfl⟩
  have F__law_table_by:=fun_mk (st:=s__law_table_by) l__law_table_by c__law_table_by k__law_table_by
  have D__law_table_by:Def K mg "_law_table_by" s__law_table_by ["_law_script","_law_begin","_law_marks_here"] f__law_table_by _:=⟨F__law_table_by,PySem.W.mg_of X G a__law_table_by,F__law_table_by.binds (ps:=["_law_script","_law_begin","_law_marks_here"]) fun _ _ _ _ _ _ us hl=>match us,hl with | [_,_,_],_=>rfl⟩
  have F__law_thing:=fun_mk (st:=s__law_thing) l__law_thing c__law_thing k__law_thing
  have D__law_thing:Def K mg "_law_thing" s__law_thing ["_law_kind","_law_script","_law_begin","_law_marks_here"] f__law_thing _:=⟨F__law_thing,PySem.W.mg_of X G a__law_thing,F__law_thing.binds (ps:=["_law_kind","_law_script","_law_begin","_law_marks_here"]) fun _ _ _ _ _ _ us hl=>match us,hl with | [_,_,_,_],_=>rfl⟩
  have F__law_spots:=fun_mk (st:=s__law_spots) l__law_spots c__law_spots k__law_spots
  have D__law_spots:Def K mg "_law_spots" s__law_spots ["_law_form"] f__law_spots _:=⟨F__law_spots,PySem.W.mg_of X G a__law_spots,F__law_spots.binds (ps:=["_law_form"]) fun _ _ _ _ _ _ us hl=>match us,hl with | [_],_=>rfl⟩
  have F__law_above:=fun_mk (st:=s__law_above) l__law_above c__law_above k__law_above
  have D__law_above:Def K mg "_law_above" s__law_above ["_law_spots_here","_law_early","_law_late"] f__law_above _:=⟨F__law_above,PySem.W.mg_of X G a__law_above,F__law_above.binds (ps:=["_law_spots_here","_law_early","_law_late"]) fun _ _ _ _ _ _ us hl=>match us,hl with | [_,_,_],_=>rfl⟩
  have F__law_pair:=fun_mk (st:=s__law_pair) l__law_pair c__law_pair k__law_pair
  have D__law_pair:Def K mg "_law_pair" s__law_pair ["_law_kind","_law_spots_here","_law_early","_law_late"] f__law_pair _:=⟨F__law_pair,PySem.W.mg_of X G a__law_pair,F__law_pair.binds (ps:=["_law_kind","_law_spots_here","_law_early","_law_late"]) fun _ _ _ _ _ _ us hl=>match us,hl with | [_,_,_,_],_=>rfl⟩
  have F__law_due:=fun_mk (st:=s__law_due) l__law_due c__law_due k__law_due
  have D__law_due:Def K mg "_law_due" s__law_due ["_law_form"] f__law_due _:=⟨F__law_due,PySem.W.mg_of X G a__law_due,F__law_due.binds (ps:=["_law_form"]) fun _ _ _ _ _ _ us hl=>match us,hl with | [_],_=>rfl⟩
  have F_law:=fun_mk (st:=s_law) l_law c_law k_law
  have D_law:Def K mg "law" s_law ["_law_script"] fa _:=⟨F_law,PySem.W.mg_of X G a_law,F_law.binds (ps:=["_law_script"]) fun _ _ _ _ _ _ us hl=>match us,hl with | [_],_=>rfl⟩
  have M_Forest:Mk K C_Forest f_Forest_init:=⟨m1_Forest,a_Forest_init,n_Forest_init,m2_Forest⟩
  have M_Row:Mk K C_Row f_Row_init:=⟨m1_Row,a_Row_init,n_Row_init,m2_Row⟩
  have M_Table:Mk K C_Table f_Table_init:=⟨m1_Table,a_Table_init,n_Table_init,m2_Table⟩
  have CM_Thing_init:ClsM K C_Thing "__init__" f_Thing_init:=⟨th1_Thing,th2_Thing,a_Thing_init,k_Thing_init⟩
  have ME_Row_many:Meth K C_Row "many" f_Row_many:=⟨i_Row_many,n_Row_many,k_Row_many⟩
  have ME_Forest_many:Meth K C_Forest "many" f_Forest_many:=⟨i_Forest_many,n_Forest_many,k_Forest_many⟩
  have ME_Forest_standing:Meth K C_Forest "standing" f_Forest_standing:=⟨i_Forest_standing,n_Forest_standing,k_Forest_standing⟩
  have ME_Forest_hanging:Meth K C_Forest "hanging" f_Forest_hanging:=⟨i_Forest_hanging,n_Forest_hanging,k_Forest_hanging⟩
  have ME_Table_many:Meth K C_Table "many" f_Table_many:=⟨i_Table_many,n_Table_many,k_Table_many⟩
  have ME_Row_left:Meth K C_Row "left" f_Row_left:=⟨i_Row_left,n_Row_left,k_Row_left⟩
  have ME_Forest_left:Meth K C_Forest "left" f_Forest_left:=⟨i_Forest_left,n_Forest_left,k_Forest_left⟩
  have ME_Table_left:Meth K C_Table "left" f_Table_left:=⟨i_Table_left,n_Table_left,k_Table_left⟩
  have ME_Row_form:Meth K C_Row "form" f_Row_form:=⟨i_Row_form,n_Row_form,k_Row_form⟩
  have ME_Forest_form:Meth K C_Forest "form" f_Forest_form:=⟨i_Forest_form,n_Forest_form,k_Forest_form⟩
  have ME_Table_form:Meth K C_Table "form" f_Table_form:=⟨i_Table_form,n_Table_form,k_Table_form⟩
  have ME_Row_is_before:Meth K C_Row "is_before" f_Thing_is_before:=⟨i_Row_is_before,n_Thing_is_before,k_Thing_is_before⟩
  have ME_Forest_is_before:Meth K C_Forest "is_before" f_Thing_is_before:=⟨i_Forest_is_before,n_Thing_is_before,k_Thing_is_before⟩
  have ME_Table_is_before:Meth K C_Table "is_before" f_Thing_is_before:=⟨i_Table_is_before,n_Thing_is_before,k_Thing_is_before⟩
  have ME_Row_is_under:Meth K C_Row "is_under" f_Row_is_under:=⟨i_Row_is_under,n_Row_is_under,k_Row_is_under⟩
  have ME_Forest_is_under:Meth K C_Forest "is_under" f_Forest_is_under:=⟨i_Forest_is_under,n_Forest_is_under,k_Forest_is_under⟩
  have ME_Table_is_under:Meth K C_Table "is_under" f_Table_is_under:=⟨i_Table_is_under,n_Table_is_under,k_Table_is_under⟩
  have ME_Row_is_beside:Meth K C_Row "is_beside" f_Row_is_beside:=⟨i_Row_is_beside,n_Row_is_beside,k_Row_is_beside⟩
  have ME_Forest_is_beside:Meth K C_Forest "is_beside" f_Forest_is_beside:=⟨i_Forest_is_beside,n_Forest_is_beside,k_Forest_is_beside⟩
  have ME_Table_is_beside:Meth K C_Table "is_beside" f_Table_is_beside:=⟨i_Table_is_beside,n_Table_is_beside,k_Table_is_beside⟩
  refine ⟨PySem.W.fnOf "law" "law" (defArgs s_law) (defBody s_law) (defScope s_law) .none kV_law dc_law pm_law an_law cd_law ct_law,fun s v=>.of_eq rfl,fun base _ _=>?_⟩
  have G_is_whole:FnOk l.prog w K mg base CX0 1 f_is_whole _ ["thing"] sp_is_whole:=ok_is_whole D_is_whole T
  have G_is_mark:FnOk l.prog w K mg base CX0 1 f_is_mark _ ["thing"] sp_is_mark:=ok_is_mark D_is_mark T
  have G_check_list:FnOk l.prog w K mg base (CX1 l.prog w) 1 f_check_list _ ["thing","most"] (sp_check_list ⟨C_ShrinkError,C_NoThing,C_NoPlace,C_Thing,C_Row,C_Forest,C_Table⟩):=ok_check_list D_check_list T
  have G_check_marks:FnOk l.prog w K mg base (CX1 l.prog w) 2 f_check_marks _ ["marks","most"] (sp_check_marks ⟨C_ShrinkError,C_NoThing,C_NoPlace,C_Thing,C_Row,C_Forest,C_Table⟩):=ok_check_marks D_check_marks T G_check_list G_is_mark D_check_list D_is_mark
  have G_check_node:FnOk l.prog w K mg base (CX1 l.prog w) 2 f_check_node _ ["node","deepest"] (sp_check_node ⟨C_ShrinkError,C_NoThing,C_NoPlace,C_Thing,C_Row,C_Forest,C_Table⟩):=ok_check_node D_check_node T G_is_mark G_is_whole D_is_mark D_is_whole
  have G_check_nodes:FnOk l.prog w K mg base (CX1 l.prog w) 3 f_check_nodes _ ["nodes"] (sp_check_nodes ⟨C_ShrinkError,C_NoThing,C_NoPlace,C_Thing,C_Row,C_Forest,C_Table⟩):=ok_check_nodes D_check_nodes T G_check_list G_check_node D_check_list D_check_node
  have G_check_lines:FnOk l.prog w K mg base (CX1 l.prog w) 3 f_check_lines _ ["lines"] (sp_check_lines ⟨C_ShrinkError,C_NoThing,C_NoPlace,C_Thing,C_Row,C_Forest,C_Table⟩):=ok_check_lines D_check_lines T G_check_list G_check_marks D_check_list D_check_marks
  have G_check_places:FnOk l.prog w K mg base (CX1 l.prog w) 2 f_check_places _ ["places","many"] (sp_check_places ⟨C_ShrinkError,C_NoThing,C_NoPlace,C_Thing,C_Row,C_Forest,C_Table⟩):=ok_check_places D_check_places T G_is_whole D_is_whole
  have G_marks_at:FnOk l.prog w K mg base CX0 1 f_marks_at _ ["marks","places"] (sp_marks_at K):=ok_marks_at D_marks_at T
  have G_places_of:FnOk l.prog w K mg base CX0 1 f_places_of _ ["marks","mark"] (sp_places_of K):=ok_places_of D_places_of T
  have G_stands_ahead:FnOk l.prog w K mg base CX0 1 f_stands_ahead _ ["marks","one","other"] (sp_stands_ahead K):=ok_stands_ahead D_stands_ahead T
  have G_stands_right_ahead:FnOk l.prog w K mg base CX0 1 f_stands_right_ahead _ ["marks","one","other"] sp_stands_right_ahead:=ok_stands_right_ahead D_stands_right_ahead T
  have G_Thing_init:FnOk l.prog w K mg base CX0 1 f_Thing_init _ ["self","spot_marks"] (sp_Thing_init ⟨C_ShrinkError,C_NoThing,C_NoPlace,C_Thing,C_Row,C_Forest,C_Table⟩):=ok_Thing_init F_Thing_init T
  have G_Thing_is_before:FnOk l.prog w K mg base CX0 2 f_Thing_is_before _ ["self","one","other"] (sp_is_before ⟨C_ShrinkError,C_NoThing,C_NoPlace,C_Thing,C_Row,C_Forest,C_Table⟩):=ok_Thing_is_before F_Thing_is_before T G_stands_ahead D_stands_ahead
  have G_Row_init:FnOk l.prog w K mg base (CX1 l.prog w) 3 f_Row_init _ ["self","marks"] (sp_Row_init ⟨C_ShrinkError,C_NoThing,C_NoPlace,C_Thing,C_Row,C_Forest,C_Table⟩):=ok_Row_init F_Row_init T G_check_marks G_Thing_init D_check_marks B_Thing_init CM_Thing_init
  have G_Row_many:FnOk l.prog w K mg base CX0 1 f_Row_many _ ["self"] (sp_Row_many ⟨C_ShrinkError,C_NoThing,C_NoPlace,C_Thing,C_Row,C_Forest,C_Table⟩):=ok_Row_many F_Row_many T
  have G_Row_left:FnOk l.prog w K mg base (CX1 l.prog w) 5 f_Row_left _ ["self","places"] (sp_Row_left ⟨C_ShrinkError,C_NoThing,C_NoPlace,C_Thing,C_Row,C_Forest,C_Table⟩):=ok_Row_left F_Row_left T G_check_places G_Row_many G_Row_init G_marks_at D_check_places D_marks_at B_Row_many B_Row_init ME_Row_many M_Row
  have G_Row_form:FnOk l.prog w K mg base CX0 1 f_Row_form _ ["self"] (sp_Row_form ⟨C_ShrinkError,C_NoThing,C_NoPlace,C_Thing,C_Row,C_Forest,C_Table⟩):=ok_Row_form F_Row_form T
  have G_Row_is_under:FnOk l.prog w K mg base CX0 1 f_Row_is_under _ ["self","one","other"] sp_Row_is_under:=ok_Row_is_under F_Row_is_under T
  have G_Row_is_beside:FnOk l.prog w K mg base CX0 2 f_Row_is_beside _ ["self","one","other"] (sp_Row_is_beside ⟨C_ShrinkError,C_NoThing,C_NoPlace,C_Thing,C_Row,C_Forest,C_Table⟩):=ok_Row_is_beside F_Row_is_beside T G_stands_right_ahead D_stands_right_ahead
  have G_Forest_init:FnOk l.prog w K mg base (CX1 l.prog w) 4 f_Forest_init _ ["self","nodes"] (sp_Forest_init ⟨C_ShrinkError,C_NoThing,C_NoPlace,C_Thing,C_Row,C_Forest,C_Table⟩):=ok_Forest_init F_Forest_init T G_check_nodes G_Thing_init D_check_nodes B_Thing_init CM_Thing_init
  have G_Forest_many:FnOk l.prog w K mg base CX0 1 f_Forest_many _ ["self"] (sp_many ⟨C_ShrinkError,C_NoThing,C_NoPlace,C_Thing,C_Row,C_Forest,C_Table⟩):=ok_Forest_many F_Forest_many T
  have G_Forest_left:FnOk l.prog w K mg base (CX1 l.prog w) 6 f_Forest_left _ ["self","places"] (sp_Forest_left ⟨C_ShrinkError,C_NoThing,C_NoPlace,C_Thing,C_Row,C_Forest,C_Table⟩):=ok_Forest_left F_Forest_left T G_check_places G_Forest_many G_Forest_init D_check_places B_Forest_many B_Forest_init ME_Forest_many M_Forest
  have G_Forest_form:FnOk l.prog w K mg base CX0 1 f_Forest_form _ ["self"] (sp_form ⟨C_ShrinkError,C_NoThing,C_NoPlace,C_Thing,C_Row,C_Forest,C_Table⟩):=ok_Forest_form F_Forest_form T
  have G_Forest_standing:FnOk l.prog w K mg base CX0 2 f_Forest_standing _ ["self","mark"] (sp_Forest_standing ⟨C_ShrinkError,C_NoThing,C_NoPlace,C_Thing,C_Row,C_Forest,C_Table⟩):=ok_Forest_standing F_Forest_standing T G_places_of D_places_of
  have G_Forest_hanging:FnOk l.prog w K mg base CX0 2 f_Forest_hanging _ ["self","place"] (sp_Forest_hanging ⟨C_ShrinkError,C_NoThing,C_NoPlace,C_Thing,C_Row,C_Forest,C_Table⟩):=ok_Forest_hanging F_Forest_hanging T G_Forest_many B_Forest_many ME_Forest_many
  have G_Forest_is_under:FnOk l.prog w K mg base CX0 3 f_Forest_is_under _ ["self","one","other"] (sp_Forest_is_under ⟨C_ShrinkError,C_NoThing,C_NoPlace,C_Thing,C_Row,C_Forest,C_Table⟩):=ok_Forest_is_under F_Forest_is_under T G_Forest_standing G_marks_at G_Forest_hanging D_marks_at B_Forest_standing B_Forest_hanging ME_Forest_standing ME_Forest_hanging
  have G_Forest_is_beside:FnOk l.prog w K mg base CX0 3 f_Forest_is_beside _ ["self","one","other"] (sp_Forest_is_beside ⟨C_ShrinkError,C_NoThing,C_NoPlace,C_Thing,C_Row,C_Forest,C_Table⟩):=ok_Forest_is_beside F_Forest_is_beside T G_Forest_standing G_Forest_hanging G_Forest_many B_Forest_standing B_Forest_hanging B_Forest_many ME_Forest_standing ME_Forest_hanging ME_Forest_many
  have G_Table_init:FnOk l.prog w K mg base (CX1 l.prog w) 4 f_Table_init _ ["self","lines"] (sp_Table_init ⟨C_ShrinkError,C_NoThing,C_NoPlace,C_Thing,C_Row,C_Forest,C_Table⟩):=ok_Table_init F_Table_init T G_check_lines G_Thing_init D_check_lines B_Thing_init CM_Thing_init
  have G_Table_many:FnOk l.prog w K mg base CX0 1 f_Table_many _ ["self"] (sp_Table_many ⟨C_ShrinkError,C_NoThing,C_NoPlace,C_Thing,C_Row,C_Forest,C_Table⟩):=ok_Table_many F_Table_many T
  have G_Table_left:FnOk l.prog w K mg base (CX1 l.prog w) 6 f_Table_left _ ["self","places"] (sp_Table_left ⟨C_ShrinkError,C_NoThing,C_NoPlace,C_Thing,C_Row,C_Forest,C_Table⟩):=ok_Table_left F_Table_left T G_check_places G_Table_many G_Table_init G_marks_at D_check_places D_marks_at B_Table_many B_Table_init ME_Table_many M_Table
  have G_Table_form:FnOk l.prog w K mg base CX0 1 f_Table_form _ ["self"] (sp_Table_form ⟨C_ShrinkError,C_NoThing,C_NoPlace,C_Thing,C_Row,C_Forest,C_Table⟩):=ok_Table_form F_Table_form T
  have G_Table_is_under:FnOk l.prog w K mg base CX0 2 f_Table_is_under _ ["self","one","other"] (sp_Table_is_under ⟨C_ShrinkError,C_NoThing,C_NoPlace,C_Thing,C_Row,C_Forest,C_Table⟩):=ok_Table_is_under F_Table_is_under T G_stands_ahead D_stands_ahead
  have G_Table_is_beside:FnOk l.prog w K mg base CX0 2 f_Table_is_beside _ ["self","one","other"] (sp_Table_is_beside ⟨C_ShrinkError,C_NoThing,C_NoPlace,C_Thing,C_Row,C_Forest,C_Table⟩):=ok_Table_is_beside F_Table_is_beside T G_stands_right_ahead D_stands_right_ahead
  have G__law_cell_at:FnOk l.prog w K mg base CX0 1 f__law_cell_at _ ["_law_script","_law_k"] (sp__law_cell_at K):=ok__law_cell_at D__law_cell_at T
  have G__law_mix:FnOk l.prog w K mg base CX0 1 f__law_mix _ ["_law_seed","_law_k"] sp__law_mix:=ok__law_mix D__law_mix T
  have G__law_how_many:FnOk l.prog w K mg base CX0 1 f__law_how_many _ ["_law_number"] sp__law_how_many:=ok__law_how_many D__law_how_many T
  have G__law_marks:FnOk l.prog w K mg base CX0 1 f__law_marks _ ["_law_cell","_law_many"] sp__law_marks:=ok__law_marks D__law_marks T
  have G__law_pick:FnOk l.prog w K mg base CX0 1 f__law_pick _ ["_law_cell","_law_marks_here"] sp__law_pick:=ok__law_pick D__law_pick T
  have G__law_cells:FnOk l.prog w K mg base CX0 2 f__law_cells _ ["_law_script","_law_begin","_law_seed","_law_many"] (sp__law_cells K):=ok__law_cells D__law_cells T G__law_mix D__law_mix
  have G__law_nodes:FnOk l.prog w K mg base CX0 2 f__law_nodes _ ["_law_cells_here","_law_marks_here"] sp__law_nodes:=ok__law_nodes D__law_nodes T G__law_pick D__law_pick
  have G__law_lines:FnOk l.prog w K mg base CX0 2 f__law_lines _ ["_law_cells_here","_law_marks_here","_law_wide"] sp__law_lines:=ok__law_lines D__law_lines T G__law_pick D__law_pick
  have G__law_some:FnOk l.prog w K mg base CX0 2 f__law_some _ ["_law_cell","_law_many"] sp__law_some:=ok__law_some D__law_some T G__law_mix D__law_mix
  have G__law_table_by:FnOk l.prog w K mg base CX0 3 f__law_table_by _ ["_law_script","_law_begin","_law_marks_here"] (sp__law_table_by K):=ok__law_table_by D__law_table_by T G__law_cell_at G__law_pick G__law_lines G__law_mix D__law_cell_at D__law_pick D__law_lines D__law_mix
  have G__law_thing:FnOk l.prog w K mg base CX0 6 f__law_thing _ ["_law_kind","_law_script","_law_begin","_law_marks_here"] (sp__law_thing K ⟨C_ShrinkError,C_NoThing,C_NoPlace,C_Thing,C_Row,C_Forest,C_Table⟩):=ok__law_thing D__law_thing T G__law_cells G__law_cell_at G_Row_init G__law_pick G_Forest_init G__law_nodes G_Table_init G__law_table_by D__law_cells D__law_cell_at D__law_pick D__law_nodes D__law_table_by B_Row_init B_Forest_init B_Table_init M_Row M_Forest M_Table
  have G__law_spots:FnOk l.prog w K mg base CX0 1 f__law_spots _ ["_law_form"] sp__law_spots:=ok__law_spots D__law_spots T
  have G__law_above:FnOk l.prog w K mg base CX0 1 f__law_above _ ["_law_spots_here","_law_early","_law_late"] sp__law_above:=ok__law_above D__law_above T
  have G__law_pair:FnOk l.prog w K mg base CX0 2 f__law_pair _ ["_law_kind","_law_spots_here","_law_early","_law_late"] sp__law_pair:=ok__law_pair D__law_pair T G__law_above D__law_above
  have G__law_due:FnOk l.prog w K mg base CX0 3 f__law_due _ ["_law_form"] sp__law_due:=ok__law_due D__law_due T G__law_spots G__law_pair D__law_spots D__law_pair
  exact ok_law D_law T G__law_cell_at G__law_marks G__law_how_many G__law_thing G_Row_left G__law_some G_Row_many G_Forest_many G_Table_many G_Forest_left G_Table_left G_Row_form G_Forest_form G_Table_form G__law_due G_Thing_is_before G_Row_is_under G_Forest_is_under G_Table_is_under G_Row_is_beside G_Forest_is_beside G_Table_is_beside D__law_cell_at D__law_marks D__law_how_many D__law_thing D__law_some D__law_due B_Row_left B_Row_many B_Forest_many B_Table_many B_Forest_left B_Table_left B_Row_form B_Forest_form B_Table_form B_Thing_is_before B_Row_is_under B_Forest_is_under B_Table_is_under B_Row_is_beside B_Forest_is_beside B_Table_is_beside ME_Row_left ME_Row_many ME_Forest_many ME_Table_many ME_Forest_left ME_Table_left ME_Row_form ME_Forest_form ME_Table_form ME_Row_is_before ME_Forest_is_before ME_Table_is_before ME_Row_is_under ME_Forest_is_under ME_Table_is_under ME_Row_is_beside ME_Forest_is_beside ME_Table_is_beside
theorem walk {l:PySem.W.OpenLaw} {q:Program} {loose:List Str} {XP:(Str → Option Value) → Heap → Prop} {YP:World → Heap → Prop} {d:DefRec} {K:Params → PySem.W.Frag} (hn:l.most = some 63) (hdf:d.params.defaults = [])
    (hY:∀ (w:World) (h:Heap),YP w h → (K w.params).In h)
    (F:∀ (w:World) (mg:Str → Option Value) (fa:Addr) (h:Heap),(K w.params).In h → h.Ns mainGlobals mg → mg d.name = some (.ref fa) →
      ∃ fd:FuncData,(∀ (s:Shared) (u:Value),BindsTo s fd ⟨[u],[]⟩ [("_law_script",u)]) ∧ ∀ base:Heap,(K w.params).In base → base.Ns mainGlobals mg → FnOk l.prog w (K w.params) mg base CX0 7 fa fd ["_law_script"] (sp_law (K w.params))) :
    PySem.W.WalkO q loose XP YP l.row.toRowW d [] (fun f vs=>PySem.call f vs) :=
  L2.walk_of (n:=63) (k:=7) (x:="_law_script") (CX:=fun _=>CX0) (sp:=fun w=>sp_law (K w.params)) hn (by decide) hdf ⟨rfl,by decide,by decide⟩ hY F (fun _ _ a ns hl _ hS=>⟨a,ns,rfl,hS,hl,fun _=>rfl⟩) fun _ _ _ _ _ z=>z
end K09
def PySem.W.Fast.tw2492026676356775102:Nat:=0
def PySem.W.Fast.tw12122808242210374637:Nat:=0
def PySem.W.Fast.tw6253748435028657549:Nat:=0
def PySem.W.Fast.tw8064472334337337599:Nat:=0
def PySem.W.Fast.tw18344535393265273278:Nat:=0
def PySem.W.Fast.tw9877034301837333616:Nat:=0
def PySem.W.Fast.tw15997449912688689242:Nat:=0
def PySem.W.Fast.tw17891119598697565391:Nat:=0
def PySem.W.Fast.tw6825852054380489951:Nat:=0
def PySem.W.Fast.tw1344560608592248190:Nat:=0
def PySem.W.Fast.tw1762048766718357886:Nat:=0
def PySem.W.Fast.tw15824113495245450468:Nat:=0
def PySem.W.Fast.tw16527859478428968181:Nat:=0
def PySem.W.Fast.tw15794079731692908963:Nat:=0
def PySem.W.Fast.tw3141273021818939635:Nat:=0
def PySem.W.Fast.tw15060086412606419267:Nat:=0
def PySem.W.Fast.tw904795761805768407:Nat:=0
def PySem.W.Fast.tw2187972475321492682:Nat:=0
def PySem.W.Fast.tw9775938122141038363:Nat:=0
def PySem.W.Fast.tw9582743989044627529:Nat:=0
def PySem.W.Fast.tw1431941336929268149:Nat:=0
def PySem.W.Fast.tw9512626354550090679:Nat:=0
def PySem.W.Fast.tw13095694963896503222:Nat:=0
def PySem.W.Fast.tw5299820574335856512:Nat:=0
def PySem.W.Fast.tw9799469925534491523:Nat:=0
def PySem.W.Fast.tw10049615159949435869:Nat:=0
open PySem PySem.W PyProof.Rows
set_option maxRecDepth 100000 in
set_option maxHeartbeats 0 in
theorem PySem.Challenge.cw_shrinkhouse_k09_before_under_beside_holds : PySem.Challenge.rw_shrinkhouse_k09_before_under_beside.Holds := by
  w_on; o_law; k_head; (case hw=>w_witness2)
  k_fill
  refine K09.walk (l:=PySem.Challenge.rw_shrinkhouse_k09_before_under_beside) rfl rfl (fun w h Y=>PySem.W.kIn_of Y) ?F
  case F =>
    intro w mg fa h KX G hmg
    refine' K09.all_mk KX G hmg ?a_ShrinkError ?a_NoThing ?a_NoPlace ?a_Thing ?a_Row ?a_Forest ?a_Table ?a_is_whole ?l_is_whole ?c_is_whole ?k_is_whole ?a_is_mark ?l_is_mark ?c_is_mark ?k_is_mark ?a_check_list ?l_check_list ?c_check_list ?k_check_list ?a_check_marks ?l_check_marks ?c_check_marks ?k_check_marks ?a_check_node ?l_check_node ?c_check_node ?k_check_node ?a_check_nodes ?l_check_nodes ?c_check_nodes ?k_check_nodes ?a_check_lines ?l_check_lines ?c_check_lines ?k_check_lines ?a_check_places ?l_check_places ?c_check_places ?k_check_places ?a_marks_at ?l_marks_at ?c_marks_at ?k_marks_at ?a_places_of ?l_places_of ?c_places_of ?k_places_of ?a_stands_ahead ?l_stands_ahead ?c_stands_ahead ?k_stands_ahead ?a_stands_right_ahead ?l_stands_right_ahead ?c_stands_right_ahead ?k_stands_right_ahead ?a_Thing_init ?l_Thing_init ?c_Thing_init ?k_Thing_init ?n_Thing_init ?i_Row_is_before ?i_Forest_is_before ?i_Table_is_before ?l_Thing_is_before ?c_Thing_is_before ?k_Thing_is_before ?n_Thing_is_before ?a_Row_init ?l_Row_init ?c_Row_init ?k_Row_init ?n_Row_init ?i_Row_many ?l_Row_many ?c_Row_many ?k_Row_many ?n_Row_many ?i_Row_left ?l_Row_left ?c_Row_left ?k_Row_left ?n_Row_left ?i_Row_form ?l_Row_form ?c_Row_form ?k_Row_form ?n_Row_form ?i_Row_is_under ?l_Row_is_under ?c_Row_is_under ?k_Row_is_under ?n_Row_is_under ?i_Row_is_beside ?l_Row_is_beside ?c_Row_is_beside ?k_Row_is_beside ?n_Row_is_beside ?a_Forest_init ?l_Forest_init ?c_Forest_init ?k_Forest_init ?n_Forest_init ?i_Forest_many ?l_Forest_many ?c_Forest_many ?k_Forest_many ?n_Forest_many ?i_Forest_left ?l_Forest_left ?c_Forest_left ?k_Forest_left ?n_Forest_left ?i_Forest_form ?l_Forest_form ?c_Forest_form ?k_Forest_form ?n_Forest_form ?i_Forest_standing ?l_Forest_standing ?c_Forest_standing ?k_Forest_standing ?n_Forest_standing ?i_Forest_is_under ?l_Forest_is_under ?c_Forest_is_under ?k_Forest_is_under ?n_Forest_is_under ?i_Forest_is_beside ?l_Forest_is_beside ?c_Forest_is_beside ?k_Forest_is_beside ?n_Forest_is_beside ?i_Forest_hanging ?l_Forest_hanging ?c_Forest_hanging ?k_Forest_hanging ?n_Forest_hanging ?a_Table_init ?l_Table_init ?c_Table_init ?k_Table_init ?n_Table_init ?i_Table_many ?l_Table_many ?c_Table_many ?k_Table_many ?n_Table_many ?i_Table_left ?l_Table_left ?c_Table_left ?k_Table_left ?n_Table_left ?i_Table_form ?l_Table_form ?c_Table_form ?k_Table_form ?n_Table_form ?i_Table_is_under ?l_Table_is_under ?c_Table_is_under ?k_Table_is_under ?n_Table_is_under ?i_Table_is_beside ?l_Table_is_beside ?c_Table_is_beside ?k_Table_is_beside ?n_Table_is_beside ?a__law_cell_at ?l__law_cell_at ?c__law_cell_at ?k__law_cell_at ?a__law_mix ?l__law_mix ?c__law_mix ?k__law_mix ?a__law_how_many ?l__law_how_many ?c__law_how_many ?k__law_how_many ?a__law_marks ?l__law_marks ?c__law_marks ?k__law_marks ?a__law_pick ?l__law_pick ?c__law_pick ?k__law_pick ?a__law_cells ?l__law_cells ?c__law_cells ?k__law_cells ?a__law_nodes ?l__law_nodes ?c__law_nodes ?k__law_nodes ?a__law_lines ?l__law_lines ?c__law_lines ?k__law_lines ?a__law_some ?l__law_some ?c__law_some ?k__law_some ?a__law_table_by ?l__law_table_by ?c__law_table_by ?k__law_table_by ?a__law_thing ?l__law_thing ?c__law_thing ?k__law_thing ?a__law_spots ?l__law_spots ?c__law_spots ?k__law_spots ?a__law_above ?l__law_above ?c__law_above ?k__law_above ?a__law_pair ?l__law_pair ?c__law_pair ?k__law_pair ?a__law_due ?l__law_due ?c__law_due ?k__law_due ?a_law ?l_law ?c_law ?k_law ?z_all ?z_any ?z_bool ?z_dict ?z_enumerate ?z_int ?z_isinstance ?z_len ?z_list ?z_max ?z_min ?z_range ?z_str ?z_tuple ?z_zip ?g_LETTERS ?g_LONGEST_MARK ?g_MOST_IN_ROW ?g_MOST_NODES ?g_DEEPEST ?g_MOST_LINES ?g_MOST_COLUMNS ?x1_NoPlace ?x2_NoPlace ?x3_NoPlace ?x4_NoPlace ?x5_NoPlace ?x6_NoPlace ?x7_NoPlace ?x1_NoThing ?x2_NoThing ?x3_NoThing ?x4_NoThing ?x5_NoThing ?x6_NoThing ?x7_NoThing ?r1_Forest ?r2_Forest ?r3_Forest ?r4_Forest ?n_Forest_nodes ?n_Forest_spot_marks ?r6_Forest ?r9_Forest ?r1_Row ?r2_Row ?r3_Row ?r4_Row ?n_Row_spot_marks ?r6_Row ?r9_Row ?r1_Table ?r2_Table ?r3_Table ?r4_Table ?n_Table_columns ?n_Table_lines ?n_Table_spot_marks ?r6_Table ?r9_Table ?r7 ?r8 ?m1_Forest ?m2_Forest ?m1_Row ?m2_Row ?m1_Table ?m2_Table ?th1_Thing ?th2_Thing
    (case a_ShrinkError=>k_is)
    (case a_NoThing=>k_is)
    (case a_NoPlace=>k_is)
    (case a_Thing=>k_is)
    (case a_Row=>k_is)
    (case a_Forest=>k_is)
    (case a_Table=>k_is)
    (case a_is_whole=>k_is)
    (case l_is_whole=>k_is)
    (case c_is_whole=>k_is)
    (case k_is_whole=>k_is)
    (case a_is_mark=>k_is)
    (case l_is_mark=>k_is)
    (case c_is_mark=>k_is)
    (case k_is_mark=>k_is)
    (case a_check_list=>k_is)
    (case l_check_list=>k_is)
    (case c_check_list=>k_is)
    (case k_check_list=>k_is)
    (case a_check_marks=>k_is)
    (case l_check_marks=>k_is)
    (case c_check_marks=>k_is)
    (case k_check_marks=>k_is)
    (case a_check_node=>k_is)
    (case l_check_node=>k_is)
    (case c_check_node=>k_is)
    (case k_check_node=>k_is)
    (case a_check_nodes=>k_is)
    (case l_check_nodes=>k_is)
    (case c_check_nodes=>k_is)
    (case k_check_nodes=>k_is)
    (case a_check_lines=>k_is)
    (case l_check_lines=>k_is)
    (case c_check_lines=>k_is)
    (case k_check_lines=>k_is)
    (case a_check_places=>k_is)
    (case l_check_places=>k_is)
    (case c_check_places=>k_is)
    (case k_check_places=>k_is)
    (case a_marks_at=>k_is)
    (case l_marks_at=>k_is)
    (case c_marks_at=>k_is)
    (case k_marks_at=>k_is)
    (case a_places_of=>k_is)
    (case l_places_of=>k_is)
    (case c_places_of=>k_is)
    (case k_places_of=>k_is)
    (case a_stands_ahead=>k_is)
    (case l_stands_ahead=>k_is)
    (case c_stands_ahead=>k_is)
    (case k_stands_ahead=>k_is)
    (case a_stands_right_ahead=>k_is)
    (case l_stands_right_ahead=>k_is)
    (case c_stands_right_ahead=>k_is)
    (case k_stands_right_ahead=>k_is)
    (case a_Thing_init=>k_is)
    (case l_Thing_init=>k_is)
    (case c_Thing_init=>k_is)
    (case k_Thing_init=>k_is)
    (case n_Thing_init=>k_is)
    (case i_Row_is_before=>k_is)
    (case i_Forest_is_before=>k_is)
    (case i_Table_is_before=>k_is)
    (case l_Thing_is_before=>k_is)
    (case c_Thing_is_before=>k_is)
    (case k_Thing_is_before=>k_is)
    (case n_Thing_is_before=>k_is)
    (case a_Row_init=>k_is)
    (case l_Row_init=>k_is)
    (case c_Row_init=>k_is)
    (case k_Row_init=>k_is)
    (case n_Row_init=>k_is)
    (case i_Row_many=>k_is)
    (case l_Row_many=>k_is)
    (case c_Row_many=>k_is)
    (case k_Row_many=>k_is)
    (case n_Row_many=>k_is)
    (case i_Row_left=>k_is)
    (case l_Row_left=>k_is)
    (case c_Row_left=>k_is)
    (case k_Row_left=>k_is)
    (case n_Row_left=>k_is)
    (case i_Row_form=>k_is)
    (case l_Row_form=>k_is)
    (case c_Row_form=>k_is)
    (case k_Row_form=>k_is)
    (case n_Row_form=>k_is)
    (case i_Row_is_under=>k_is)
    (case l_Row_is_under=>k_is)
    (case c_Row_is_under=>k_is)
    (case k_Row_is_under=>k_is)
    (case n_Row_is_under=>k_is)
    (case i_Row_is_beside=>k_is)
    (case l_Row_is_beside=>k_is)
    (case c_Row_is_beside=>k_is)
    (case k_Row_is_beside=>k_is)
    (case n_Row_is_beside=>k_is)
    (case a_Forest_init=>k_is)
    (case l_Forest_init=>k_is)
    (case c_Forest_init=>k_is)
    (case k_Forest_init=>k_is)
    (case n_Forest_init=>k_is)
    (case i_Forest_many=>k_is)
    (case l_Forest_many=>k_is)
    (case c_Forest_many=>k_is)
    (case k_Forest_many=>k_is)
    (case n_Forest_many=>k_is)
    (case i_Forest_left=>k_is)
    (case l_Forest_left=>k_is)
    (case c_Forest_left=>k_is)
    (case k_Forest_left=>k_is)
    (case n_Forest_left=>k_is)
    (case i_Forest_form=>k_is)
    (case l_Forest_form=>k_is)
    (case c_Forest_form=>k_is)
    (case k_Forest_form=>k_is)
    (case n_Forest_form=>k_is)
    (case i_Forest_standing=>k_is)
    (case l_Forest_standing=>k_is)
    (case c_Forest_standing=>k_is)
    (case k_Forest_standing=>k_is)
    (case n_Forest_standing=>k_is)
    (case i_Forest_is_under=>k_is)
    (case l_Forest_is_under=>k_is)
    (case c_Forest_is_under=>k_is)
    (case k_Forest_is_under=>k_is)
    (case n_Forest_is_under=>k_is)
    (case i_Forest_is_beside=>k_is)
    (case l_Forest_is_beside=>k_is)
    (case c_Forest_is_beside=>k_is)
    (case k_Forest_is_beside=>k_is)
    (case n_Forest_is_beside=>k_is)
    (case i_Forest_hanging=>k_is)
    (case l_Forest_hanging=>k_is)
    (case c_Forest_hanging=>k_is)
    (case k_Forest_hanging=>k_is)
    (case n_Forest_hanging=>k_is)
    (case a_Table_init=>k_is)
    (case l_Table_init=>k_is)
    (case c_Table_init=>k_is)
    (case k_Table_init=>k_is)
    (case n_Table_init=>k_is)
    (case i_Table_many=>k_is)
    (case l_Table_many=>k_is)
    (case c_Table_many=>k_is)
    (case k_Table_many=>k_is)
    (case n_Table_many=>k_is)
    (case i_Table_left=>k_is)
    (case l_Table_left=>k_is)
    (case c_Table_left=>k_is)
    (case k_Table_left=>k_is)
    (case n_Table_left=>k_is)
    (case i_Table_form=>k_is)
    (case l_Table_form=>k_is)
    (case c_Table_form=>k_is)
    (case k_Table_form=>k_is)
    (case n_Table_form=>k_is)
    (case i_Table_is_under=>k_is)
    (case l_Table_is_under=>k_is)
    (case c_Table_is_under=>k_is)
    (case k_Table_is_under=>k_is)
    (case n_Table_is_under=>k_is)
    (case i_Table_is_beside=>k_is)
    (case l_Table_is_beside=>k_is)
    (case c_Table_is_beside=>k_is)
    (case k_Table_is_beside=>k_is)
    (case n_Table_is_beside=>k_is)
    (case a__law_cell_at=>k_is)
    (case l__law_cell_at=>k_is)
    (case c__law_cell_at=>k_is)
    (case k__law_cell_at=>k_is)
    (case a__law_mix=>k_is)
    (case l__law_mix=>k_is)
    (case c__law_mix=>k_is)
    (case k__law_mix=>k_is)
    (case a__law_how_many=>k_is)
    (case l__law_how_many=>k_is)
    (case c__law_how_many=>k_is)
    (case k__law_how_many=>k_is)
    (case a__law_marks=>k_is)
    (case l__law_marks=>k_is)
    (case c__law_marks=>k_is)
    (case k__law_marks=>k_is)
    (case a__law_pick=>k_is)
    (case l__law_pick=>k_is)
    (case c__law_pick=>k_is)
    (case k__law_pick=>k_is)
    (case a__law_cells=>k_is)
    (case l__law_cells=>k_is)
    (case c__law_cells=>k_is)
    (case k__law_cells=>k_is)
    (case a__law_nodes=>k_is)
    (case l__law_nodes=>k_is)
    (case c__law_nodes=>k_is)
    (case k__law_nodes=>k_is)
    (case a__law_lines=>k_is)
    (case l__law_lines=>k_is)
    (case c__law_lines=>k_is)
    (case k__law_lines=>k_is)
    (case a__law_some=>k_is)
    (case l__law_some=>k_is)
    (case c__law_some=>k_is)
    (case k__law_some=>k_is)
    (case a__law_table_by=>k_is)
    (case l__law_table_by=>k_is)
    (case c__law_table_by=>k_is)
    (case k__law_table_by=>k_is)
    (case a__law_thing=>k_is)
    (case l__law_thing=>k_is)
    (case c__law_thing=>k_is)
    (case k__law_thing=>k_is)
    (case a__law_spots=>k_is)
    (case l__law_spots=>k_is)
    (case c__law_spots=>k_is)
    (case k__law_spots=>k_is)
    (case a__law_above=>k_is)
    (case l__law_above=>k_is)
    (case c__law_above=>k_is)
    (case k__law_above=>k_is)
    (case a__law_pair=>k_is)
    (case l__law_pair=>k_is)
    (case c__law_pair=>k_is)
    (case k__law_pair=>k_is)
    (case a__law_due=>k_is)
    (case l__law_due=>k_is)
    (case c__law_due=>k_is)
    (case k__law_due=>k_is)
    (case a_law=>k_is)
    (case l_law=>k_is)
    (case c_law=>k_is)
    (case k_law=>k_is)
    (case z_all=>k_is)
    (case z_any=>k_is)
    (case z_bool=>k_is)
    (case z_dict=>k_is)
    (case z_enumerate=>k_is)
    (case z_int=>k_is)
    (case z_isinstance=>k_is)
    (case z_len=>k_is)
    (case z_list=>k_is)
    (case z_max=>k_is)
    (case z_min=>k_is)
    (case z_range=>k_is)
    (case z_str=>k_is)
    (case z_tuple=>k_is)
    (case z_zip=>k_is)
    (case g_LETTERS=>k_is)
    (case g_LONGEST_MARK=>k_is)
    (case g_MOST_IN_ROW=>k_is)
    (case g_MOST_NODES=>k_is)
    (case g_DEEPEST=>k_is)
    (case g_MOST_LINES=>k_is)
    (case g_MOST_COLUMNS=>k_is)
    (case x1_NoPlace=>k_exc)
    (case x2_NoPlace=>k_is)
    (case x3_NoPlace=>k_is)
    (case x4_NoPlace=>k_is)
    (case x5_NoPlace=>k_is)
    (case x6_NoPlace=>k_is)
    (case x7_NoPlace=>k_is)
    (case x1_NoThing=>k_exc)
    (case x2_NoThing=>k_is)
    (case x3_NoThing=>k_is)
    (case x4_NoThing=>k_is)
    (case x5_NoThing=>k_is)
    (case x6_NoThing=>k_is)
    (case x7_NoThing=>k_is)
    (case r1_Forest=>k_is)
    (case r2_Forest=>k_is)
    (case r3_Forest=>k_is)
    (case r4_Forest=>k_is)
    (case n_Forest_nodes=>k_is)
    (case n_Forest_spot_marks=>k_is)
    (case r6_Forest=>k_is)
    (case r9_Forest=>k_is)
    (case r1_Row=>k_is)
    (case r2_Row=>k_is)
    (case r3_Row=>k_is)
    (case r4_Row=>k_is)
    (case n_Row_spot_marks=>k_is)
    (case r6_Row=>k_is)
    (case r9_Row=>k_is)
    (case r1_Table=>k_is)
    (case r2_Table=>k_is)
    (case r3_Table=>k_is)
    (case r4_Table=>k_is)
    (case n_Table_columns=>k_is)
    (case n_Table_lines=>k_is)
    (case n_Table_spot_marks=>k_is)
    (case r6_Table=>k_is)
    (case r9_Table=>k_is)
    (case r7=>k_is)
    (case r8=>k_is)
    (case m1_Forest=>k_is)
    (case m2_Forest=>k_is)
    (case m1_Row=>k_is)
    (case m2_Row=>k_is)
    (case m1_Table=>k_is)
    (case m2_Table=>k_is)
    (case th1_Thing=>k_is)
    (case th2_Thing=>k_is)
#print axioms PySem.Challenge.cw_shrinkhouse_k09_before_under_beside_holds
