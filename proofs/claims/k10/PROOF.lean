import PyProof.Rows.All
import Wide.All
import OpenK.AllK
import Wide.FinOn
import Lean
import PyProof.EqAt
import PyProof.EqKinds
import PyProof.TupleCall
import PyProof.StrLawsIn
import KE.KTryMore
import PyProof.ListRange
import PyProof.ZipIter
import KE.KDictOf
import PyProof.Draws
import PyProof.EnumMake
import PyProof.Rows.EnumRows
import PySem.Challenge.RW_shrinkhouse_k10_what_holds
set_option autoImplicit false
set_option Elab.async false
set_option linter.all false
set_option maxRecDepth 100000
set_option maxHeartbeats 4000000
namespace L2
open PySem PySem.Spec PyProof.Rows
abbrev Key:=Sum Int Str
def keyIs:Key → Value → Bool
  | .inl k,v=>Value.isInt k v
  | .inr x,v=>Value.isStrOf x v
def keyH (w:World):Key → Int
  | .inl k=>hashInt k
  | .inr x=>hashStr w x
theorem keyIs_shape:∀ {k:Key} {v:Value},keyIs k v = true → (∃ i t,k = Sum.inl i ∧ v = Value.int i t) ∨ (∃ x t,k = Sum.inr x ∧ v = Value.str x t)
  | .inl i,v,h=>by
    obtain ⟨t,e⟩:=Value.isInt_shape (k:=i) (v:=v) h
    exact .inl ⟨i,t,rfl,e⟩
  | .inr x,v,h=>by
    obtain ⟨t,e⟩:=Value.isStrOf_shape (x:=x) (v:=v) h
    exact .inr ⟨x,t,rfl,e⟩
theorem key_ll (a b:Int):decide ((Sum.inl a:Key) = Sum.inl b) = (a == b):=by
  by_cases e:a = b
  · subst e; simp
  · have h:¬ (Sum.inl a:Key) = Sum.inl b:=fun q=>e (Sum.inl.inj q)
    rw [decide_eq_false h]
    exact (beq_eq_false_iff_ne.mpr e).symm
theorem key_rr (a b:Str):decide ((Sum.inr a:Key) = Sum.inr b) = decide (a = b):=by
  by_cases e:a = b
  · subst e; simp
  · have h:¬ (Sum.inr a:Key) = Sum.inr b:=fun q=>e (Sum.inr.inj q)
    rw [decide_eq_false h,decide_eq_false e]
theorem key_lr (a:Int) (b:Str):decide ((Sum.inl a:Key) = Sum.inr b) = false:=decide_eq_false (fun q=>nomatch q)
theorem key_rl (a:Str) (b:Int):decide ((Sum.inr a:Key) = Sum.inl b) = false:=decide_eq_false (fun q=>nomatch q)
def mixKind (prog:Program) (w:World):PySem.KeyKind prog w Key where
  is:=keyIs
  hash:=keyH w
  inj:=fun v a b ha hb=>by
    rcases keyIs_shape ha with ⟨i,t,rfl,rfl⟩ | ⟨x,t,rfl,rfl⟩
    · rcases keyIs_shape hb with ⟨j,u,rfl,e⟩ | ⟨y,u,rfl,e⟩
      · injection e with e1 _; rw [e1]
      · exact nomatch e
    · rcases keyIs_shape hb with ⟨j,u,rfl,e⟩ | ⟨y,u,rfl,e⟩
      · exact nomatch e
      · injection e with e1 _; rw [e1]
  byValue:=fun k v h=>by
    rcases keyIs_shape h with ⟨i,t,rfl,rfl⟩ | ⟨x,t,rfl,rfl⟩ <;> rfl
  pyHash:=fun hv h=>by
    rcases keyIs_shape hv with ⟨i,t,rfl,rfl⟩ | ⟨x,t,rfl,rfl⟩
    · exact wpAny_pyHash_int h
    · exact wpAny_pyHash_str h
  eqBool:=fun hu hv h=>by
    rcases keyIs_shape hu with ⟨i,t,rfl,rfl⟩ | ⟨x,t,rfl,rfl⟩
    · rcases keyIs_shape hv with ⟨j,u,rfl,rfl⟩ | ⟨y,u,rfl,rfl⟩
      · rw [key_ll] at h; exact wpAny_eqBool_int h
      · rw [key_lr] at h; exact SeqAt.EqAt.int_str i t y u _ _ _ _ h
    · rcases keyIs_shape hv with ⟨j,u,rfl,rfl⟩ | ⟨y,u,rfl,rfl⟩
      · rw [key_rl] at h; exact SeqAt.EqAt.str_int x t j u _ _ _ _ h
      · rw [key_rr] at h; exact wpAny_eqBool_str h
  «strs»:=fun k x t v h=>by
    rcases keyIs_shape h with ⟨i,u,rfl,e⟩ | ⟨y,u,rfl,e⟩
    · exact nomatch e
    · injection e with e1 _
      subst e1
      cases v <;> rfl
end L2
namespace L2
open PySem PySem.Spec PyProof.Rows
inductive V where
  | non | bl (b:Bool) | int (i:Int) | str (x:Str) | byt (b:Array UInt8) | flt (b:UInt64) | ref (a:Addr) | ty (n:String)
  deriving DecidableEq
def RelV:V → Value → Prop
  | .non,u=>u = Value.none
  | .bl b,u=>u = Value.bool b
  | .int i,u=>∃ t,u = Value.int i t
  | .str x,u=>∃ t,u = Value.str x t
  | .byt b,u=>∃ t,u = Value.bytes b t
  | .flt b,u=>∃ t,u = Value.float b t
  | .ref a,u=>u = Value.ref a
  | .ty n,u=>u = Value.type n
abbrev Vals:List V → List Value → Prop:=Paired RelV
theorem Vals.length {xs:List V} {us:List Value} (r:Vals xs us):xs.length = us.length:=Paired.length r
theorem Vals.get:∀ {xs:List V} {us:List Value} {i:Nat} {x:V},Vals xs us → xs[i]? = some x → ∃ u,us[i]? = some u ∧ RelV x u
  | _,_,_,_,.nil,e=>by simp at e
  | _,_,0,_,.cons r _,e=>by simp at e; subst e; exact ⟨_,rfl,r⟩
  | _,_,i + 1,x,.cons _ t,e=>by
    obtain ⟨u,h1,h2⟩:=Vals.get (i:=i) (x:=x) t (by simpa using e)
    exact ⟨u,by simpa using h1,h2⟩
theorem Vals.set {x:V} {u:Value} (r:RelV x u):∀ {xs:List V} {us:List Value} (i:Nat),Vals xs us → Vals (xs.set i x) (us.set i u)
  | _,_,_,.nil=>.nil
  | _,_,0,.cons _ t=>.cons r t
  | _,_,i + 1,.cons q t=>.cons q (Vals.set r i t)
theorem Vals.append:∀ {xs ys:List V} {us ws:List Value},Vals xs us → Vals ys ws → Vals (xs ++ ys) (us ++ ws)
  | _,_,_,_,.nil,s=>s
  | _,_,_,_,.cons r t,s=>.cons r (Vals.append t s)
theorem Vals.take:∀ {xs:List V} {us:List Value} (n:Nat),Vals xs us → Vals (xs.take n) (us.take n)
  | _,_,0,_=>.nil
  | _,_,_ + 1,.nil=>.nil
  | _,_,n + 1,.cons r t=>.cons r (Vals.take n t)
theorem Vals.drop:∀ {xs:List V} {us:List Value} (n:Nat),Vals xs us → Vals (xs.drop n) (us.drop n)
  | _,_,0,r=>r
  | _,_,_ + 1,.nil=>.nil
  | _,_,n + 1,.cons _ t=>Vals.drop n t
theorem Vals.none_of:∀ {xs:List V} {us:List Value} {i:Nat},Vals xs us → xs[i]? = none → us[i]? = none:=fun {xs us i} r e=>by
  have h1:=r.length
  have h2:xs.length ≤ i:=List.getElem?_eq_none_iff.mp e
  exact List.getElem?_eq_none_iff.mpr (by omega)
def RelO:Option V → Option Value → Prop
  | some v,some u=>RelV v u
  | none,none=>True
  | _,_=>False
def KV {κ:Type}:List (κ × V) → List (κ × Value) → Prop:=Paired fun (p:κ × V) (q:κ × Value)=>p.1 = q.1 ∧ RelV p.2 q.2
def kV:Key → V
  | .inl i=>.int i
  | .inr x=>.str x
inductive HO where
  
  | lst (xs:List V)
  
  | tup (xs:List V)
  
  | dK (kvs:List (Key × V)) | dT (kvs:List (List Key × V))
  
  | set (S:Int → Bool) (n:Nat)
  
  | ins (C dx:Addr) (fs:List (Str × V))
  
  | own (x:Addr)
  
  | xd (fs:List (Str × V))
  
  | met (f x:Addr)
  
  | rng (lo hi:Int)
  
  | frz (o:Obj) (u:HO)
  
  | tbl (ps:Array Value)
  
  | ext (φ:Heap → Prop)
abbrev Hp:=Addr → Option HO
def upd (H:Hp) (a:Addr) (o:HO):Hp:=fun b=>if b = a then some o else H b
theorem upd_same {H:Hp} {a:Addr} {o:HO}:upd H a o a = some o:=by unfold upd; rw [if_pos rfl]
theorem upd_ne {H:Hp} {a b:Addr} {o:HO} (h:b ≠ a):upd H a o b = H b:=by unfold upd; rw [if_neg h]
theorem upd_upd {H:Hp} {a:Addr} {o u:HO}:upd (upd H a o) a u = upd H a u:=by
  funext b; unfold upd; split <;> rfl
theorem ne_of {H:Hp} {a b:Addr} {o u:HO} (h:H a = some o) (h':H b = some u) (d:o ≠ u):a ≠ b:=by
  intro e; subst e; rw [h] at h'; exact d (Option.some.inj h')
theorem ne_of_none {H:Hp} {a b:Addr} {o:HO} (h:H a = some o) (h':H b = none):a ≠ b:=by
  intro e; subst e; rw [h] at h'; cases h'
section
variable (P:Program) (w:World)
def ObjOk (H:Hp) (h:Heap) (a:Addr):HO → Prop
  | .lst xs=>xs.length ≤ sizeLine ∧ ∃ (its:List Value) (n:Nat),Vals xs its ∧ h.get? a = some { cls:=.type "list",data:=.seq its.toArray n }
  | .tup xs=>xs.length ≤ sizeLine ∧ ∃ its:List Value,Vals xs its ∧ IsTup h a its.toArray
  | .dK kvs=>kvs.length ≤ sizeLine ∧ (a == sysModules) = false ∧ ∃ vs,KV kvs vs ∧ h.DictOf (mixKind P w) a vs
  | .dT kvs=>kvs.length ≤ sizeLine ∧ (a == sysModules) = false ∧ ∃ xs:List (List Key × Addr × Value),
      Paired (fun (p:List Key × V) (q:List Key × Addr × Value)=>p.1 = q.1 ∧ H q.2.1 = some (.tup (p.1.map kV)) ∧ RelV p.2 q.2.2) kvs xs ∧
      ∃ o es ep,h.get? a = some o ∧ o.ExactDict ∧ o.data = .dict es ep ∧ es.toList = xs.map (entryOfKey (tupleKind (mixKind P w))) ∧ (xs.map (·.1)).Nodup
  | .set S n=>h.SetOf (intKind P w) a S n
  | .ins C dx fs=>H dx = some (.own a) ∧ fs.length ≤ 1000 ∧ dx ≠ a ∧ h.get? a = some (PySem.W.instObj C dx) ∧
      ∃ mA,h.Ns1 dx mA ∧ (∀ f,RelO (fs.lookup f) (mA f)) ∧ PySem.Within mA (fs.map (·.1))
  | .own _=>∃ o,h.get? a = some o
  | .xd fs=>∃ mA,h.Ns1 a mA ∧ ∀ f,RelO (fs.lookup f) (mA f)
  | .rng lo hi=>∃ t u v,h.get? a = some { cls:=.type "range",data:=.fields #[.int lo t,.int hi u,.int 1 v] }
  | .frz o u=>h.get? a = some o ∧ ObjOk H h a u
  | .tbl ps=>h.get? a = some { cls:=.none,data:=.fields ps }
  | .met f x=>h.get? a = some (PySem.W.methodObj (.ref f) (.ref x))
  | .ext φ=>φ h ∧ (∃ o,h.get? a = some o) ∧ ∀ h1 h2:Heap,φ h1 → (∀ o,h1.get? a = some o → h2.get? a = some o) → φ h2
def HOk (H:Hp) (h:Heap):Prop:=∀ a o,H a = some o → ObjOk P w H h a o
end
section
variable {P:Program} {w:World} {H H':Hp} {h h':Heap} {a:Addr} {o:HO}
theorem ObjOk.lt (x:ObjOk P w H h a o):a < h.objs.size:=by
  cases o with
  | lst xs=>obtain ⟨_,_,_,_,e⟩:=x; exact Heap.lt_size e
  | tup xs=>obtain ⟨_,_,_,p⟩:=x; exact p.lt
  | dK kvs=>obtain ⟨_,_,_,_,o,_,_,e,_⟩:=x; exact Heap.lt_size e
  | dT kvs=>obtain ⟨_,_,_,_,o,_,_,e,_⟩:=x; exact Heap.lt_size e
  | set S n=>obtain ⟨o,_,_,_,e,_⟩:=x; exact Heap.lt_size e
  | ins C dx fs=>obtain ⟨_,_,_,e,_⟩:=x; exact Heap.lt_size e
  | own y=>obtain ⟨_,e⟩:=x; exact Heap.lt_size e
  | xd fs=>obtain ⟨_,⟨_,_,_,e,_⟩,_⟩:=x; exact Heap.lt_size e
  | rng lo hi=>obtain ⟨_,_,_,e⟩:=x; exact Heap.lt_size e
  | frz ob u=>obtain ⟨e,_⟩:=x; exact Heap.lt_size e
  | tbl ps=>exact Heap.lt_size (show h.get? a = some _ from x)
  | met f y=>exact Heap.lt_size (show h.get? a = some _ from x)
  | ext φ=>obtain ⟨_,⟨_,e⟩,_⟩:=x; exact Heap.lt_size e
theorem Paired.mapP {α β:Type} {F G:α → β → Prop}:∀ {l₁:List α} {l₂:List β},Paired F l₁ l₂ → (∀ a b,F a b → G a b) → Paired G l₁ l₂
  | _,_,.nil,_=>.nil
  | _,_,.cons r t,f=>.cons (f _ _ r) (Paired.mapP t f)
theorem ObjOk.stay (x:ObjOk P w H h a o) (k:∀ b u,(b = a ∨ H b = some (.own a)) → h.get? b = some u → h'.get? b = some u)
    (ho:∀ b,H b = some (.own a) → H' b = some (.own a)) (ht:∀ b xs,H b = some (.tup xs) → H' b = some (.tup xs)):ObjOk P w H' h' a o:=by
  induction o with
  | lst xs=>obtain ⟨z,its,n,r,e⟩:=x; exact ⟨z,its,n,r,k _ _ (.inl rfl) e⟩
  | tup xs=>obtain ⟨z,its,r,ob,e,c⟩:=x; exact ⟨z,its,r,ob,k _ _ (.inl rfl) e,c⟩
  | dK kvs=>obtain ⟨z,y,vs,r,ob,es,ep,e,c⟩:=x; exact ⟨z,y,vs,r,ob,es,ep,k _ _ (.inl rfl) e,c⟩
  | dT kvs =>
    obtain ⟨z,y,xs,r,ob,es,ep,e,c⟩:=x
    exact ⟨z,y,xs,Paired.mapP r fun p q z=>⟨z.1,ht _ _ z.2.1,z.2.2⟩,ob,es,ep,k _ _ (.inl rfl) e,c⟩
  | set S n=>obtain ⟨ob,es,ep,t,e,c⟩:=x; exact ⟨ob,es,ep,t,k _ _ (.inl rfl) e,c⟩
  | ins C dx fs =>
    obtain ⟨d,z,ne,e,mA,⟨od,es,ep,e2,c⟩,r⟩:=x
    exact ⟨ho _ d,z,ne,k _ _ (.inl rfl) e,mA,⟨od,es,ep,k _ _ (.inr d) e2,c⟩,r⟩
  | own y=>obtain ⟨ob,e⟩:=x; exact ⟨ob,k _ _ (.inl rfl) e⟩
  | xd fs=>obtain ⟨mA,⟨od,es,ep,e,c⟩,r⟩:=x; exact ⟨mA,⟨od,es,ep,k _ _ (.inl rfl) e,c⟩,r⟩
  | rng lo hi=>obtain ⟨t,u,v,e⟩:=x; exact ⟨t,u,v,k _ _ (.inl rfl) e⟩
  | frz ob u ih=>obtain ⟨e,q⟩:=x; exact ⟨k _ _ (.inl rfl) e,ih q⟩
  | tbl ps =>
    have e:h.get? a = some { cls:=.none,data:=.fields ps }:=x
    show h'.get? a = some { cls:=.none,data:=.fields ps }
    exact k a _ (.inl rfl) e
  | met f y =>
    have e:h.get? a = some (PySem.W.methodObj (.ref f) (.ref y)):=x
    show h'.get? a = some (PySem.W.methodObj (.ref f) (.ref y))
    exact k a _ (.inl rfl) e
  | ext φ=>obtain ⟨p,⟨o,e⟩,st⟩:=x; exact ⟨st _ _ p fun o q=>k _ _ (.inl rfl) q,⟨o,k _ _ (.inl rfl) e⟩,st⟩
theorem HOk.lt (x:HOk P w H h) (e:H a = some o):a < h.objs.size:=(x a o e).lt
theorem HOk.fresh (x:HOk P w H h) (e:h.objs.size ≤ a):H a = none:=by
  cases q:H a with
  | none=>rfl
  | some u=>exact absurd (Nat.lt_of_lt_of_le (x.lt q) e) (Nat.lt_irrefl _)
theorem HOk.kept (x:HOk P w H h) (k:∀ b u,h.get? b = some u → h'.get? b = some u):HOk P w H h':=fun a o e =>
  (x a o e).stay (fun b u _ q=>k b u q) (fun _ q=>q) fun _ _ q=>q
theorem HOk.laid (x:HOk P w H h) (k:∀ b u,h.get? b = some u → h'.get? b = some u) (hp:h.objs.size ≤ a) (new:ObjOk P w (upd H a o) h' a o):HOk P w (upd H a o) h':=fun b u e=>by
  have hn:=x.fresh hp
  by_cases hb:b = a
  · subst hb; rw [upd_same] at e; cases e; exact new
  · rw [upd_ne hb] at e
    exact (x b u e).stay (fun c v _ q=>k c v q) (fun c q=>by rw [upd_ne (ne_of_none q hn)]; exact q) fun c xs q=>by rw [upd_ne (ne_of_none q hn)]; exact q
end
def Rd (H:Hp) (a:Addr) (u:HO):Prop:=H a = some u ∨ ∃ o,H a = some (.frz o u)
theorem Rd.of {H:Hp} {a:Addr} {u:HO} (h:H a = some u):Rd H a u:=.inl h
theorem Rd.ok {P:Program} {w:World} {H:Hp} {h:Heap} {a:Addr} {u:HO} (r:Rd H a u) (x:HOk P w H h):ObjOk P w H h a u:=by
  rcases r with r | ⟨o,r⟩
  · exact x a u r
  · obtain ⟨_,q⟩:=x a _ r
    exact q
def Mut:Option HO → Prop
  | some (.lst _)=>True
  | some (.dK _)=>True
  | some (.dT _)=>True
  | some (.set _ _)=>True
  | some (.ins _ _ _)=>True
  | some (.ext _)=>True
  | _=>False
section
variable {P:Program} {w:World} {H:Hp} {h h':Heap} {x e:Addr} {o':HO}
theorem HOk.write (ok:HOk P w H h) (mu:Mut (H x)) (he:e = x ∨ H e = some (.own x)) (k:∀ b u,b ≠ e → h.get? b = some u → h'.get? b = some u) (heo:∃ u,h'.get? e = some u)
    (new:ObjOk P w (upd H x o') h' x o'):HOk P w (upd H x o') h':=fun b u q=>by
  have nown:∀ c y,H c = some (.own y) → c ≠ x:=fun c y r z=>by subst z; rw [r] at mu; exact mu
  have ntup:∀ c xs,H c = some (.tup xs) → c ≠ x:=fun c xs r z=>by subst z; rw [r] at mu; exact mu
  by_cases hb:b = x
  · subst hb; rw [upd_same] at q; cases q; exact new
  · rw [upd_ne hb] at q
    by_cases hbe:b = e
    · have q':H b = some (.own x):=by
        rcases he with z | z
        · exact absurd (hbe.trans z) hb
        · rw [hbe]; exact z
      rw [q] at q'; cases q'
      obtain ⟨v,hv⟩:=heo
      exact ⟨v,by rw [hbe]; exact hv⟩
    · refine (ok b u q).stay (fun c v hc r=>k c v ?_ r) (fun c r=>by rw [upd_ne (nown c b r)]; exact r) fun c xs r=>by rw [upd_ne (ntup c xs r)]; exact r
      rcases hc with rfl | hc
      · exact hbe
      · rintro rfl
        rcases he with z | z
        · exact nown c b hc z
        · rw [hc] at z; cases z; exact hb rfl
end
structure Un (fs ex:List Addr) (H H':Hp) (h h':Heap):Prop where
  keep:∀ b o,h.get? b = some o → H b = none → b ∉ fs → b ∉ ex → h'.get? b = some o
  slot:∀ b o,h.get? b = some o → H b = none → b ∈ fs → b ∉ ex → ∃ sl,h'.get? b = some { o with slots:=sl }
  free:∀ b o,h.get? b = some o → H b = none → b ∉ ex → H' b = none
  there:∀ b o,h.get? b = some o → b ∉ ex → ∃ o',h'.get? b = some o'
  tups:∀ b xs,H b = some (.tup xs) → H' b = some (.tup xs)
  frzs:∀ b o u,H b = some (.frz o u) → H' b = some (.frz o u)
  tbls:∀ b ps,H b = some (.tbl ps) → ∃ more,H' b = some (.tbl (ps ++ more))
section
variable {fs fs' ex ex':List Addr} {H H1 H2:Hp} {h h1 h2 h':Heap} {a x e:Addr} {o:HO}
theorem Un.any (u:Un fs ex H H1 h h1) {b:Addr} {ob:Obj} (q:h.get? b = some ob) (n:H b = none) (hx:b ∉ ex):∃ sl,h1.get? b = some { ob with slots:=sl }:=by
  by_cases hb:b ∈ fs
  · exact u.slot b ob q n hb hx
  · exact ⟨ob.slots,u.keep b ob q n hb hx⟩
theorem Un.trans (a:Un fs ex H H1 h h1) (b:Un fs ex H1 H2 h1 h2):Un fs ex H H2 h h2 where
  keep:=fun c ob q n hc hx=>b.keep c ob (a.keep c ob q n hc hx) (a.free c ob q n hx) hc hx
  slot:=fun c ob q n hc hx=>by
    obtain ⟨sl,e1⟩:=a.slot c ob q n hc hx
    obtain ⟨sl',e2⟩:=b.slot c _ e1 (a.free c ob q n hx) hc hx
    exact ⟨sl',e2⟩
  free:=fun c ob q n hx=>by
    obtain ⟨o',e1⟩:=a.there c ob q hx
    exact b.free c o' e1 (a.free c ob q n hx) hx
  there:=fun c ob q hx=>by
    obtain ⟨o',e1⟩:=a.there c ob q hx
    exact b.there c o' e1 hx
  tups:=fun c xs q=>b.tups c xs (a.tups c xs q)
  frzs:=fun c ob xs q=>b.frzs c ob xs (a.frzs c ob xs q)
  tbls:=fun c ps q=>by
    obtain ⟨m1,e1⟩:=a.tbls c ps q
    obtain ⟨m2,e2⟩:=b.tbls c _ e1
    exact ⟨m1 ++ m2,by rw [e2,Array.append_assoc]⟩
theorem Un.kept (k:∀ b u,h.get? b = some u → h'.get? b = some u):Un fs ex H H h h' :=
  ⟨fun b ob q _ _ _=>k b ob q,fun b ob q _ _ _=>⟨ob.slots,k b ob q⟩,fun _ _ _ n _=>n,fun b ob q _=>⟨ob,k b ob q⟩,fun _ _ q=>q,fun _ _ _ q=>q,fun _ ps q=>⟨#[],by rw [q]; simp⟩⟩
theorem Un.refl:Un fs ex H H h h:=Un.kept fun _ _ q=>q
theorem Un.laid (k:∀ b u,h.get? b = some u → h'.get? b = some u) (hp:h.objs.size ≤ a) (hn:H a = none):Un fs ex H (upd H a o) h h' where
  keep:=fun b u q _ _ _=>k b u q
  slot:=fun b u q _ _ _=>⟨u.slots,k b u q⟩
  free:=fun b u q n _=>by rw [upd_ne (Nat.ne_of_lt (Nat.lt_of_lt_of_le (Heap.lt_size q) hp))]; exact n
  there:=fun b u q _=>⟨u,k b u q⟩
  tups:=fun b xs q=>by rw [upd_ne (ne_of_none q hn)]; exact q
  frzs:=fun b u xs q=>by rw [upd_ne (ne_of_none q hn)]; exact q
  tbls:=fun b ps q=>⟨#[],by rw [upd_ne (ne_of_none q hn),q]; simp⟩
theorem Un.write (mu:Mut (H x)) (he:e = x ∨ H e = some (.own x)) (k:∀ b u,b ≠ e → h.get? b = some u → h'.get? b = some u) (heo:∃ u,h'.get? e = some u):Un fs ex H (upd H x o) h h':=by
  have hx:∀ b,H b = none → b ≠ x:=fun b n z=>by subst z; rw [n] at mu; exact mu
  have hb:∀ b,H b = none → b ≠ e:=fun b n z=>by
    subst z
    rcases he with r | r
    · exact hx b n r
    · rw [n] at r; cases r
  have hm:∀ b u,H b = some u → ¬ Mut (some u) → b ≠ x:=fun b u q nm z=>by subst z; rw [q] at mu; exact nm mu
  refine ⟨fun b u q n _ _=>k b u (hb b n) q,fun b u q n _ _=>⟨u.slots,k b u (hb b n) q⟩,fun b u q n _=>by rw [upd_ne (hx b n)]; exact n,fun b u q _=>?_,
    fun b xs q=>by rw [upd_ne (hm b _ q fun z=>z)]; exact q,fun b u xs q=>by rw [upd_ne (hm b _ q fun z=>z)]; exact q,fun b ps q=>⟨#[],by rw [upd_ne (hm b _ q fun z=>z),q]; simp⟩⟩
  by_cases hbe:b = e
  · subst hbe; exact heo
  · exact ⟨u,k b u hbe q⟩
theorem Un.mono (u:Un fs ex H H1 h h1) (hs:∀ b ∈ fs,b ∈ fs') (hx:∀ b ∈ ex,b ∈ ex'):Un fs' ex' H H1 h h1 :=
  ⟨fun b ob q n hb he=>u.keep b ob q n (fun z=>hb (hs b z)) fun z=>he (hx b z),fun _ _ q n _ he=>u.any q n fun z=>he (hx _ z),fun b ob q n he=>u.free b ob q n fun z=>he (hx b z),fun b ob q he=>u.there b ob q fun z=>he (hx b z),u.tups,u.frzs,u.tbls⟩
end
def trk (h:Heap) (H:Hp):List Addr:=(List.range h.objs.size).filter fun a=>(H a).isSome
def hidT (h:Heap) (H:Hp):Heap:=PySem.W.hideAll h (trk h H)
theorem hidT_size (h:Heap) (H:Hp):(hidT h H).objs.size = h.objs.size:=PySem.W.hideAll_size _ _
theorem hidT_get {h:Heap} {H:Hp} {b:Addr} {o:Obj} (e:h.get? b = some o) (n:H b = none):(hidT h H).get? b = some o :=
  PySem.W.hideAll_get _ e fun hm=>by
    have q:(H b).isSome = true:=(List.mem_filter.mp hm).2
    rw [n] at q; simp at q
theorem of_hidT {h:Heap} {H:Hp} {b:Addr} {o:Obj} (e:(hidT h H).get? b = some o):h.get? b = some o ∧ H b = none:=by
  have e':h.get? b = some o:=PySem.W.of_hideAll (trk h H) e
  refine ⟨e',?_⟩
  cases q:H b with
  | none=>rfl
  | some x =>
    have hm:b ∈ trk h H:=List.mem_filter.mpr ⟨List.mem_range.mpr (Heap.lt_size e'),by simp [q]⟩
    have z:(hidT h H).get? b = none:=PySem.W.hideAll_none (trk h H) hm
    rw [z] at e; cases e
def allNews (g h:Heap) (L:Addr):List (Addr × Obj):=(List.range h.objs.size).filterMap fun a=>if a = L ∨ (g.get? a).isSome = true then none else (h.get? a).map fun o=>(a,o)
def rest (g h:Heap) (L d:Addr):List (Addr × Obj):=(allNews g h L).filter fun p=>decide (p.1 ≠ d)
end L2
namespace L2
open PySem PySem.Spec PyProof.Rows
structure Mod (K:PySem.W.Frag) (mg:Str → Option Value) (base:Heap):Prop where
  kin:K.In base
  glob:base.Ns mainGlobals mg
  blt:∃ mb,base.Ns builtinsNs mb ∧ ∀ x:Str,x ≠ "__name__" → mb x = bootBuiltins x
  nolimit:base.NoLimit
structure Cx where
  prog:Program
  w:World
  K:PySem.W.Frag
  mg:Str → Option Value
  base:Heap
  A:Around
  N:List Str
  s₀:Shared
  H₀:Hp
  env:Env
  outer:List Env
  stack:List Env
  ex:List Addr
  fn:Str → Bool
  calm:Bool
  pn:List (Addr × Obj)
  xe:Value → Shared → Prop
def frs (l:List Env):List Addr:=l.filterMap (·.frame)
abbrev Cx.fs (X:Cx):List Addr:=frs X.outer
def Vis (sc:Scope) (x:Str):Prop:=sc.names.lookup x = some .local ∨ sc.names.lookup x = some .cell ∨ sc.names.lookup x = some .free
def Loc (sc:Scope) (x:Str):Prop:=sc.names.lookup x = some .local ∨ sc.names.lookup x = some .cell
def Look (env:Env) (h:Heap) (m:Str → Option Value) (x:Str) (u:Value):Prop :=
  (env.kindOf x = some .local ∧ m x = some u) ∨ ((env.kindOf x = some .cell ∨ env.kindOf x = some .free) ∧ ∃ c,env.cells.lookup x = some c ∧ h.IsCell c (some u))
structure Cx.Ok (X:Cx):Prop where
  mod:Mod X.K X.mg X.base
  kind:X.env.scope.kind = .function
  glob:X.env.globals = mainGlobals
  blt:X.env.builtins = builtinsNs
  above:X.s₀.heap.objs.size ≤ X.env.locals
  inj:∀ x y c,X.env.cells.lookup x = some c → X.env.cells.lookup y = some c → x = y
  has:∀ x,(X.env.kindOf x = some .cell ∨ X.env.kindOf x = some .free) → ∃ c,X.env.cells.lookup x = some c
  cab:∀ x c,X.fn x = true → X.env.cells.lookup x = some c → X.s₀.heap.objs.size ≤ c
  hd:X.calm = true → X.A.handled = none
  frames:X.A.frames = some X.stack
  stk:X.stack = X.outer ∨ (X.stack = X.env :: X.outer ∧ X.env.frame = some X.env.locals)
  exf:∀ b ∈ X.ex,b ≠ X.env.locals ∧ ∀ x c,X.env.cells.lookup x = some c → c ≠ b
  bs:∀ b o,X.base.get? b = some o → X.s₀.heap.get? b = some o ∧ X.H₀ b = none
  bsz:X.base.objs.size ≤ X.s₀.heap.objs.size
  noex:∀ b o,X.base.get? b = some o → b ∉ X.ex
  exfs:∀ b ∈ X.ex,b ∉ X.fs
  funs:X.s₀.heap.FunFrames X.base X.outer
  frf:∀ b ∈ X.fs,X.H₀ b = none
structure Inv (X:Cx) (pins:List (Addr × Obj)) (σ:List (Option V)) (H:Hp) (s:Shared):Prop where
  ok:X.Ok
  os:s.os = X.s₀.os
  bare:AllBare s.gens
  base:Un X.fs X.ex X.H₀ H X.s₀.heap s.heap
  loc:∃ m,s.heap.Ns X.env.locals m ∧ ∀ (i:Nat) (x:Str) (v:V),X.N[i]? = some x → σ[i]? = some (some v) → Vis X.env.scope x → ∃ u,RelV v u ∧ Look X.env s.heap m x u
  cell:∀ x c,X.env.cells.lookup x = some c → ∃ v,s.heap.IsCell c v
  free:H X.env.locals = none
  freeC:∀ x c,X.env.cells.lookup x = some c → H c = none
  pin:∀ p ∈ X.pn ++ pins,s.heap.get? p.1 = some p.2 ∧ H p.1 = none ∧ p.1 ≠ X.env.locals ∧ p.1 ∉ X.fs ∧ ∀ v,p.2.data ≠ .cell v
  hok:HOk X.prog X.w H s.heap
  len:σ.length = X.N.length
section
variable {X:Cx} {pins:List (Addr × Obj)} {σ:List (Option V)} {H H':Hp} {s:Shared} {h':Heap}
theorem Cx.Ok.nofr (ok:X.Ok) {b:Addr} {o:Obj} (e:X.base.get? b = some o):b ∉ X.fs:=fun hb=>by
  have:=(ok.funs.mem hb).1
  rw [e] at this; cases this
theorem Inv.bs (I:Inv X pins σ H s):∀ b o,X.base.get? b = some o → s.heap.get? b = some o ∧ H b = none:=fun b o e =>
  ⟨I.base.keep b o (I.ok.bs b o e).1 (I.ok.bs b o e).2 (I.ok.nofr e) (I.ok.noex b o e),I.base.free b o (I.ok.bs b o e).1 (I.ok.bs b o e).2 (I.ok.noex b o e)⟩
theorem Inv.bk (I:Inv X pins σ H s):∀ b o,X.base.get? b = some o → s.heap.get? b = some o:=fun b o e=>(I.bs b o e).1
theorem Inv.mod (I:Inv X pins σ H s):Mod X.K X.mg X.base:=I.ok.mod
theorem Inv.kIn (I:Inv X pins σ H s):X.K.In s.heap:=I.ok.mod.kin.keeps I.bk
theorem Inv.nolimit (I:Inv X pins σ H s):s.heap.NoLimit:=I.ok.mod.nolimit.keeps I.bk
theorem Inv.fr (I:Inv X pins σ H s):∃ m,Fr X.base X.env.locals s.heap m :=
  let ⟨m,hn,_⟩:=I.loc
  ⟨m,hn,I.bk,Nat.le_trans I.ok.bsz I.ok.above⟩
theorem Inv.lt (I:Inv X pins σ H s):X.env.locals < s.heap.objs.size:=let ⟨_,hn,_⟩:=I.loc; hn.lt
theorem Inv.sz (I:Inv X pins σ H s):X.s₀.heap.objs.size ≤ s.heap.objs.size:=Nat.le_trans I.ok.above (Nat.le_of_lt I.lt)
theorem Inv.nofs (I:Inv X pins σ H s) {a:Addr} (h:s.heap.objs.size ≤ a):a ∉ X.fs:=fun hb=>by
  obtain ⟨_,o,ho,_⟩:=I.ok.funs.mem hb
  exact absurd (Nat.lt_of_lt_of_le (Heap.lt_size ho) (Nat.le_trans I.sz h)) (Nat.lt_irrefl _)
theorem Inv.cne (I:Inv X pins σ H s):∀ x c,X.env.cells.lookup x = some c → c ≠ X.env.locals:=fun x c e z=>by
  obtain ⟨v,o,ho,hd⟩:=I.cell x c e
  obtain ⟨m,⟨o',es,ep,ho',hd',_⟩,_⟩:=I.loc
  rw [z,ho'] at ho; cases ho; rw [hd'] at hd; cases hd
theorem Inv.funs (I:Inv X pins σ H s):s.heap.FunFrames X.base X.outer:=by
  have all:∀ (l:List Env),(∀ b ∈ frs l,b ∈ X.fs) → X.s₀.heap.FunFrames X.base l → s.heap.FunFrames X.base l:=by
    intro l
    induction l with
    | nil=>intro _ _; trivial
    | cons env r ih =>
      intro hs hl
      obtain ⟨hk,⟨L,o,hf,hn,ho,hd⟩,hr⟩:=hl
      have hL:L ∈ X.fs:=hs L (by unfold frs; rw [List.filterMap_cons,hf]; exact List.mem_cons_self)
      obtain ⟨sl,e⟩:=I.base.slot L o ho (I.ok.frf L hL) hL fun z=>I.ok.exfs L z hL
      exact ⟨hk,⟨L,_,hf,hn,e,hd⟩,ih (fun b hb=>hs b (by unfold frs; rw [List.filterMap_cons,hf]; exact List.mem_cons_of_mem _ hb)) hr⟩
  exact all X.outer (fun _ hb=>hb) I.ok.funs
theorem Inv.stack (I:Inv X pins σ H s):s.heap.FunFrames X.base X.stack:=by
  rcases I.ok.stk with e | ⟨e,hf⟩
  · rw [e]; exact I.funs
  · rw [e]
    obtain ⟨m,hn,_⟩:=I.loc
    refine .cons (by rw [I.ok.kind]; decide) hf hn ?_ I.funs
    exact Heap.get?_none_of_le (Nat.le_trans I.ok.bsz I.ok.above)
theorem Inv.stkSub (I:Inv X pins σ H s):∀ b ∈ frs X.stack,b ∈ X.env.locals :: X.fs:=fun b hb=>by
  rcases I.ok.stk with e | ⟨e,hf⟩
  · rw [e] at hb; exact List.mem_cons_of_mem _ hb
  · rw [e] at hb
    unfold frs at hb
    rw [List.filterMap_cons,hf] at hb
    exact hb
theorem Inv.stkFree (I:Inv X pins σ H s):∀ b ∈ frs X.stack,H b = none:=fun b hb=>by
  rcases List.mem_cons.mp (I.stkSub b hb) with e | hb
  · rw [e]; exact I.free
  · obtain ⟨_,o,ho,_⟩:=I.ok.funs.mem hb
    exact I.base.free b o ho (I.ok.frf b hb) fun z=>I.ok.exfs b z hb
theorem Inv.step {g':Array GenState} {t':Nat} {d':Drawn} {ch:List Addr} (I:Inv X pins σ H s)
    (hch:∀ b ∈ ch,(b ∈ X.ex ∨ X.s₀.heap.objs.size ≤ b) ∧ b ≠ X.env.locals ∧ (∀ x c,X.env.cells.lookup x = some c → c ≠ b) ∧ ∀ p ∈ X.pn ++ pins,p.1 ≠ b)
    (keep:∀ b o,b ≠ X.env.locals → b ∉ X.fs → b ∉ ch → s.heap.get? b = some o → H b = none → h'.get? b = some o)
    (slot:∀ b o,b ≠ X.env.locals → b ∈ X.fs → b ∉ ch → s.heap.get? b = some o → H b = none → ∃ sl,h'.get? b = some { o with slots:=sl }) (free:∀ b o,b ∉ ch → s.heap.get? b = some o → H b = none → H' b = none)
    (there:∀ b o,b ∉ ch → s.heap.get? b = some o → ∃ o',h'.get? b = some o')
    (tups:∀ b xs,H b = some (.tup xs) → H' b = some (.tup xs)) (frzs:∀ b o u,H b = some (.frz o u) → H' b = some (.frz o u)) (tbls:∀ b ps,H b = some (.tbl ps) → ∃ more,H' b = some (.tbl (ps ++ more)))
    (ns:∀ m,s.heap.Ns X.env.locals m → h'.Ns X.env.locals m) (hok:HOk X.prog X.w H' h') (hg:AllBare g') :
    Inv X pins σ H' { s with heap:=h',gens:=g',drawn:=d',toks:=t' }:=by
  have neL:∀ b o,X.s₀.heap.get? b = some o → b ≠ X.env.locals:=fun b o e=>Nat.ne_of_lt (Nat.lt_of_lt_of_le (Heap.lt_size e) I.ok.above)
  have neC:∀ b o,X.s₀.heap.get? b = some o → b ∉ X.ex → b ∉ ch:=fun b o e hx hb=>by
    rcases (hch b hb).1 with z | z
    · exact hx z
    · exact absurd (Nat.lt_of_lt_of_le (Heap.lt_size e) z) (Nat.lt_irrefl _)
  have cellK:∀ x c,X.env.cells.lookup x = some c → ∀ v,s.heap.IsCell c v → h'.IsCell c v:=fun x c e v ⟨o,ho,hd⟩=>by
    have nch:c ∉ ch:=fun z=>(hch c z).2.2.1 x c e rfl
    by_cases hc:c ∈ X.fs
    · obtain ⟨sl,q⟩:=slot c o (I.cne x c e) hc nch ho (I.freeC x c e)
      exact ⟨_,q,hd⟩
    · exact ⟨o,keep c o (I.cne x c e) hc nch ho (I.freeC x c e),hd⟩
  refine ⟨I.ok,I.os,hg,⟨fun b o e n hb hx=>?_,fun b o e n hb hx=>?_,fun b o e n hx=>?_,fun b o e hx=>?_,fun b xs e=>tups b xs (I.base.tups b xs e),fun b o xs e=>frzs b o xs (I.base.frzs b o xs e),fun b ps e=>?_⟩,?_,fun x c e=>?_,?_,fun x c e=>?_,fun p hp=>?_,hok,I.len⟩
  · exact keep b o (neL b o e) hb (neC b o e hx) (I.base.keep b o e n hb hx) (I.base.free b o e n hx)
  · obtain ⟨sl,e1⟩:=I.base.slot b o e n hb hx
    obtain ⟨sl',e2⟩:=slot b _ (neL b o e) hb (neC b o e hx) e1 (I.base.free b o e n hx)
    exact ⟨sl',e2⟩
  · obtain ⟨o',e1⟩:=I.base.there b o e hx
    exact free b o' (neC b o e hx) e1 (I.base.free b o e n hx)
  · obtain ⟨o',e1⟩:=I.base.there b o e hx
    exact there b o' (neC b o e hx) e1
  · obtain ⟨m1,e1⟩:=I.base.tbls b ps e
    obtain ⟨m2,e2⟩:=tbls b _ e1
    exact ⟨m1 ++ m2,by rw [e2,Array.append_assoc]⟩
  · obtain ⟨m,hn,hl⟩:=I.loc
    refine ⟨m,ns m hn,fun i x v e1 e2 e3=>?_⟩
    obtain ⟨u,r,l⟩:=hl i x v e1 e2 e3
    refine ⟨u,r,?_⟩
    rcases l with l | ⟨k,c,e,z⟩
    · exact .inl l
    · exact .inr ⟨k,c,e,cellK x c e _ z⟩
  · obtain ⟨v,z⟩:=I.cell x c e
    exact ⟨v,cellK x c e v z⟩
  · obtain ⟨m,⟨o,_,_,ho,_⟩,_⟩:=I.loc
    exact free _ o (fun z=>(hch _ z).2.1 rfl) ho I.free
  · obtain ⟨v,o,ho,hd⟩:=I.cell x c e
    exact free c o (fun z=>(hch c z).2.2.1 x c e rfl) ho (I.freeC x c e)
  · obtain ⟨e,n,ne,nf,d⟩:=I.pin p hp
    have nch:p.1 ∉ ch:=fun z=>(hch p.1 z).2.2.2 p hp rfl
    exact ⟨keep p.1 p.2 ne nf nch e n,free p.1 p.2 nch e n,ne,nf,d⟩
theorem Inv.un {t':Nat} (I:Inv X pins σ H s) (u:Un X.fs [] H H' s.heap h') (hok:HOk X.prog X.w H' h'):Inv X pins σ H' { s with heap:=h',toks:=t' }:=by
  obtain ⟨m,⟨o,es,ep,ho,r⟩,_⟩:=id I.loc
  obtain ⟨sl,hL⟩:=u.any ho I.free (by simp)
  exact I.step (g':=s.gens) (d':=s.drawn) (ch:=[]) (fun _ z=>nomatch z) (fun b o _ hb _ e n=>u.keep b o e n hb (by simp)) (fun b o _ hb _ e n=>u.slot b o e n hb (by simp)) (fun b o _ e n=>u.free b o e n (by simp)) (fun b o _ e=>u.there b o e (by simp)) u.tups u.frzs u.tbls (fun m' hm=>by
    obtain ⟨o',es',ep',ho',r'⟩:=hm
    rw [ho] at ho'; cases ho'
    exact ⟨_,es',ep',hL,r'⟩) hok I.bare
theorem Inv.call {g':Array GenState} {t':Nat} {d':Drawn} {ch:List Addr} (I:Inv X pins σ H s) (u:Un (frs X.stack) ch H H' s.heap h') (hok:HOk X.prog X.w H' h') (hg:AllBare g')
    (hch:∀ b ∈ ch,(b ∈ X.ex ∨ X.s₀.heap.objs.size ≤ b) ∧ b ≠ X.env.locals ∧ (∀ x c,X.env.cells.lookup x = some c → c ≠ b) ∧ ∀ p ∈ X.pn ++ pins,p.1 ≠ b) :
    Inv X pins σ H' { s with heap:=h',gens:=g',drawn:=d',toks:=t' }:=by
  obtain ⟨m,⟨o,es,ep,ho,r⟩,_⟩:=id I.loc
  obtain ⟨sl,hL⟩:=u.any ho I.free fun z=>(hch _ z).2.1 rfl
  exact I.step (ch:=ch) hch (fun b o hL hb hc e n=>u.keep b o e n (fun z=>(List.mem_cons.mp (I.stkSub b z)).elim hL hb) hc) (fun b o _ _ hc e n=>u.any e n hc) (fun b o hc e n=>u.free b o e n hc) (fun b o hc e=>u.there b o e hc) u.tups u.frzs u.tbls (fun m' hm=>by
    obtain ⟨o',es',ep',ho',r'⟩:=hm
    rw [ho] at ho'; cases ho'
    exact ⟨_,es',ep',hL,r'⟩) hok hg
theorem Inv.turned {t':Nat} {it:Addr} (I:Inv X pins σ H s) (k:∀ b o,b ≠ it → s.heap.get? b = some o → h'.get? b = some o) (hn:H it = none) (hL:it ≠ X.env.locals)
    (h1:it ∈ X.ex ∨ X.s₀.heap.objs.size ≤ it) (h2:∀ x c,X.env.cells.lookup x = some c → c ≠ it) (h3:∀ p ∈ X.pn ++ pins,p.1 ≠ it):Inv X pins σ H { s with heap:=h',toks:=t' }:=by
  have nit:∀ b u,H b = some u → b ≠ it:=fun b u e z=>by rw [z,hn] at e; cases e
  refine I.step (g':=s.gens) (d':=s.drawn) (ch:=[it]) (fun b hb=>?_) (fun b o _ _ hc e _=>k b o (fun z=>hc (by simp [z])) e) (fun b o _ _ hc e _=>⟨o.slots,k b o (fun z=>hc (by simp [z])) e⟩) (fun _ _ _ _ n=>n)
    (fun b o hc e=>⟨o,k b o (fun z=>hc (by simp [z])) e⟩) (fun _ _ e=>e) (fun _ _ _ e=>e) (fun b ps e=>⟨#[],by rw [e]; simp⟩) (fun m hm=>?_) (fun b u e=>?_) I.bare
  · have e:b = it:=by simpa using hb
    subst e
    exact ⟨h1,hL,h2,h3⟩
  · obtain ⟨o,es,ep,ho,r⟩:=hm
    exact ⟨o,es,ep,k _ o (Ne.symm hL) ho,r⟩
  · refine (I.hok b u e).stay (fun c v hc q=>k c v ?_ q) (fun _ q=>q) fun _ _ q=>q
    rcases hc with z | z
    · rw [z]; exact nit b u e
    · exact nit c _ z
theorem Inv.tok (I:Inv X pins σ H s) (t:Nat):Inv X pins σ H { s with toks:=t }:=I.un (h':=s.heap) (t':=t) Un.refl I.hok
theorem Inv.kept {t':Nat} (I:Inv X pins σ H s) (k:∀ b u,s.heap.get? b = some u → h'.get? b = some u):Inv X pins σ H { s with heap:=h',toks:=t' }:=I.un (Un.kept k) (I.hok.kept k)
theorem Inv.laid {a:Addr} {o:HO} {t':Nat} (I:Inv X pins σ H s) (k:∀ b u,s.heap.get? b = some u → h'.get? b = some u) (hp:s.heap.objs.size ≤ a) (new:ObjOk X.prog X.w (upd H a o) h' a o) :
    Inv X pins σ (upd H a o) { s with heap:=h',toks:=t' }:=I.un (Un.laid k hp (I.hok.fresh hp)) (I.hok.laid k hp new)
theorem Inv.write {x e:Addr} {o:HO} {t':Nat} (I:Inv X pins σ H s) (mu:Mut (H x)) (he:e = x ∨ H e = some (.own x)) (k:∀ b u,b ≠ e → s.heap.get? b = some u → h'.get? b = some u) (heo:∃ u,h'.get? e = some u)
    (new:ObjOk X.prog X.w (upd H x o) h' x o):Inv X pins σ (upd H x o) { s with heap:=h',toks:=t' }:=I.un (Un.write mu he k heo) (I.hok.write mu he k heo new)
theorem Inv.pins_of {pins':List (Addr × Obj)} (I:Inv X pins σ H s) (h:∀ p ∈ pins',s.heap.get? p.1 = some p.2 ∧ H p.1 = none ∧ p.1 ≠ X.env.locals ∧ p.1 ∉ X.fs ∧ ∀ v,p.2.data ≠ .cell v):Inv X pins' σ H s :=
  ⟨I.ok,I.os,I.bare,I.base,I.loc,I.cell,I.free,I.freeC,fun p hp=>(List.mem_append.mp hp).elim (fun z=>I.pin p (List.mem_append_left _ z)) (h p),I.hok,I.len⟩
theorem nodup_ix {N:List Str} (hN:N.Nodup) {i j:Nat} {x:Str} (a:N[i]? = some x) (b:N[j]? = some x):i = j:=by
  obtain ⟨h1,e1⟩:=List.getElem?_eq_some_iff.mp a
  obtain ⟨h2,e2⟩:=List.getElem?_eq_some_iff.mp b
  exact (List.getElem_inj hN).mp (e1.trans e2.symm)
theorem store_ok2 {M:Model} {A:Around} {E:Value → Shared → Prop} {i:Nat} {x:Str} {v:V} {u:Value} {Q:Unit → Shared → Prop} (I:Inv X pins σ H s) (hN:X.N.Nodup) (hi:X.N[i]? = some x) (hx:Loc X.env.scope x) (r:RelV v u)
    (h:∀ s',Inv X pins (σ.set i (some v)) H s' → (∃ a,Heap.SameBut a s.heap s'.heap ∧ (a = X.env.locals ∨ X.env.cells.lookup x = some a)) → Q () s') (hf:X.fn x = true ∨ X.env.scope.names.lookup x = some .local:=by first | exact .inl rfl | exact .inr rfl | assumption):wpAny M A (storeName X.env x u) Q E s:=by
  obtain ⟨m,hn,hl⟩:=id I.loc
  have hcls:(X.env.scope.kind == .class || (X.env.scope.kind == .module && X.env.locals != X.env.globals)) = false:=by rw [I.ok.kind]; rfl
  have hiσ:i < σ.length:=by rw [I.len]; exact (List.getElem?_eq_some_iff.mp hi).1
  have cne:=I.cne
  have tracked:∀ {a:Addr} {h':Heap},(∃ o,s.heap.get? a = some o ∧ H a = none) → Heap.SameBut a s.heap h' → HOk X.prog X.w H h':=fun {a h'} ha hs b ob e=>by
    obtain ⟨_,_,hfree⟩:=ha
    refine (I.hok b ob e).stay (fun c w' hc q=>(hs.2 c ?_).trans q) (fun _ q=>q) fun _ _ q=>q
    rintro rfl
    rcases hc with rfl | hc
    · rw [hfree] at e; cases e
    · rw [hfree] at hc; cases hc
  rcases hx with hk | hk
  · refine wpAny_storeName_local hk hn (fun h' hn' hs=>?_) hcls
    obtain ⟨oL,_,_,hoL,_⟩:=id hn
    refine h _ ⟨I.ok,I.os,I.bare,⟨fun b o e n hb hx=>?_,fun b o e n hb hx=>?_,I.base.free,fun b o e hx=>?_,I.base.tups,I.base.frzs,I.base.tbls⟩,⟨_,hn',fun j y v' e1 e2 e3=>?_⟩,fun y c e=>?_,I.free,I.freeC,fun p hp=>?_,tracked ⟨oL,hoL,I.free⟩ hs,by simpa using I.len⟩ ⟨_,hs,.inl rfl⟩
    · exact (hs.2 b (Nat.ne_of_lt (Nat.lt_of_lt_of_le (Heap.lt_size e) I.ok.above))).trans (I.base.keep b o e n hb hx)
    · obtain ⟨sl,e1⟩:=I.base.slot b o e n hb hx
      exact ⟨sl,(hs.2 b (Nat.ne_of_lt (Nat.lt_of_lt_of_le (Heap.lt_size e) I.ok.above))).trans e1⟩
    · obtain ⟨o',e1⟩:=I.base.there b o e hx
      exact ⟨o',(hs.2 b (Nat.ne_of_lt (Nat.lt_of_lt_of_le (Heap.lt_size e) I.ok.above))).trans e1⟩
    · by_cases hj:j = i
      · subst hj
        rw [hi] at e1; cases e1
        rw [List.getElem?_set_self hiσ] at e2
        cases e2
        exact ⟨u,r,.inl ⟨hk,by simp⟩⟩
      · rw [List.getElem?_set_ne (Ne.symm hj)] at e2
        obtain ⟨u',r',q⟩:=hl j y v' e1 e2 e3
        refine ⟨u',r',?_⟩
        rcases q with ⟨k,e⟩ | ⟨k,c,e,z⟩
        · refine .inl ⟨k,?_⟩
          have:y ≠ x:=fun e=>hj (nodup_ix hN e1 (e ▸ hi))
          simp [this,e]
        · exact .inr ⟨k,c,e,z.sameBut hs (cne y c e)⟩
    · obtain ⟨w',z⟩:=I.cell y c e
      exact ⟨w',z.sameBut hs (cne y c e)⟩
    · obtain ⟨e,n,ne,nf,d⟩:=I.pin p hp
      exact ⟨(hs.2 p.1 ne).trans e,n,ne,nf,d⟩
  · have hfn:X.fn x = true:=by
      rcases hf with z | z
      · exact z
      · rw [z] at hk; cases hk
    obtain ⟨c,hc⟩:=I.ok.has x (.inl hk)
    obtain ⟨w',z⟩:=I.cell x c hc
    refine wpAny_storeName_cell I.ok.kind hk hc z (fun h' hc' hs=>?_)
    obtain ⟨oc,hoc,hocd⟩:=id z
    refine h { s with heap:=h' } ⟨I.ok,I.os,I.bare,⟨fun b o e n hb hx=>?_,fun b o e n hb hx=>?_,I.base.free,fun b o e hx=>?_,I.base.tups,I.base.frzs,I.base.tbls⟩,⟨m,hn.sameBut hs (Ne.symm (cne x c hc)),fun j y v' e1 e2 e3=>?_⟩,fun y c' e=>?_,I.free,I.freeC,fun p hp=>?_,tracked ⟨oc,hoc,I.freeC x c hc⟩ hs,by simpa using I.len⟩ ⟨c,hs,.inr hc⟩
    · exact (hs.2 b (Nat.ne_of_lt (Nat.lt_of_lt_of_le (Heap.lt_size e) (I.ok.cab x c hfn hc)))).trans (I.base.keep b o e n hb hx)
    · obtain ⟨sl,e1⟩:=I.base.slot b o e n hb hx
      exact ⟨sl,(hs.2 b (Nat.ne_of_lt (Nat.lt_of_lt_of_le (Heap.lt_size e) (I.ok.cab x c hfn hc)))).trans e1⟩
    · obtain ⟨o',e1⟩:=I.base.there b o e hx
      exact ⟨o',(hs.2 b (Nat.ne_of_lt (Nat.lt_of_lt_of_le (Heap.lt_size e) (I.ok.cab x c hfn hc)))).trans e1⟩
    · by_cases hj:j = i
      · subst hj
        rw [hi] at e1; cases e1
        rw [List.getElem?_set_self hiσ] at e2
        cases e2
        exact ⟨u,r,.inr ⟨.inl hk,c,hc,hc'⟩⟩
      · rw [List.getElem?_set_ne (Ne.symm hj)] at e2
        obtain ⟨u',r',q⟩:=hl j y v' e1 e2 e3
        refine ⟨u',r',?_⟩
        rcases q with q | ⟨k,c',e,z'⟩
        · exact .inl q
        · refine .inr ⟨k,c',e,z'.sameBut hs ?_⟩
          rintro rfl
          exact hj (nodup_ix hN e1 (I.ok.inj _ _ _ e hc ▸ hi))
    · by_cases hcc:c' = c
      · subst hcc; exact ⟨_,hc'⟩
      · obtain ⟨w2,z2⟩:=I.cell y c' e
        exact ⟨w2,z2.sameBut hs hcc⟩
    · obtain ⟨e,n,ne,nf,d⟩:=I.pin p hp
      refine ⟨(hs.2 p.1 ?_).trans e,n,ne,nf,d⟩
      intro q
      rw [q,hoc] at e
      have q':oc = p.2:=Option.some.inj e
      exact d w' (by rw [← q']; exact hocd)
theorem store_ok {M:Model} {A:Around} {E:Value → Shared → Prop} {i:Nat} {x:Str} {v:V} {u:Value} {Q:Unit → Shared → Prop} (I:Inv X pins σ H s) (hN:X.N.Nodup) (hi:X.N[i]? = some x) (hx:Loc X.env.scope x) (r:RelV v u)
    (h:∀ s',Inv X pins (σ.set i (some v)) H s' → Q () s') (hf:X.fn x = true ∨ X.env.scope.names.lookup x = some .local:=by first | exact .inl rfl | exact .inr rfl | assumption):wpAny M A (storeName X.env x u) Q E s :=
  store_ok2 I hN hi hx r (fun s' I' _=>h s' I') hf
theorem Inv.call' {s':Shared} {ch:List Addr} (I:Inv X pins σ H s) (ho:s'.os = s.os) (u:Un (frs X.stack) ch H H' s.heap s'.heap) (hok:HOk X.prog X.w H' s'.heap) (hg:AllBare s'.gens)
    (hch:∀ b ∈ ch,(b ∈ X.ex ∨ X.s₀.heap.objs.size ≤ b) ∧ b ≠ X.env.locals ∧ (∀ x c,X.env.cells.lookup x = some c → c ≠ b) ∧ ∀ p ∈ X.pn ++ pins,p.1 ≠ b):Inv X pins σ H' s':=by
  obtain ⟨h',g',d',t',o'⟩:=s'
  have e:o' = s.os:=ho
  subst e
  exact I.call (g':=g') (t':=t') (d':=d') u hok hg hch
end
abbrev XK:=Value → Option Addr → Hp → Prop
abbrev St:=List (Option V)
abbrev VK:=V → Hp → Prop
abbrev TE:=St → Hp → VK → Prop
abbrev TT:=St → Hp → (Bool → Hp → Prop) → Prop
abbrev TA:=St → Hp → (List V → Hp → Prop) → Prop
structure Ends where
  nx:St → Hp → Prop
  rt:VK
  bk:St → Hp → Prop:=fun _ _=>False
  ct:St → Hp → Prop:=fun _ _=>False
abbrev TS:=Ends → St → Hp → Prop
def EP (X:Cx) (pins:List (Addr × Obj)) (σ:St) (Q:VK) (u:Value) (s':Shared):Prop:=∃ v H',Inv X pins σ H' s' ∧ RelV v u ∧ Q v H'
def TP (X:Cx) (pins:List (Addr × Obj)) (σ:St) (Q:Bool → Hp → Prop) (b:Bool) (s':Shared):Prop:=∃ H',Inv X pins σ H' s' ∧ Q b H'
def AP (X:Cx) (pins:List (Addr × Obj)) (σ:St) (Q:List V → Hp → Prop) (us:List Value) (s':Shared):Prop:=∃ vs H',Inv X pins σ H' s' ∧ Vals vs us ∧ Q vs H'
def SP (X:Cx) (pins:List (Addr × Obj)) (D:Ends) (f:Flow) (s':Shared):Prop :=
  match f with
  | .next=>∃ σ' H',Inv X pins σ' H' s' ∧ D.nx σ' H'
  | .brk=>∃ σ' H',Inv X pins σ' H' s' ∧ D.bk σ' H'
  | .cont=>∃ σ' H',Inv X pins σ' H' s' ∧ D.ct σ' H'
  | .ret u=>∃ v σ' H',Inv X pins σ' H' s' ∧ RelV v u ∧ D.rt v H'
def PE (X:Cx) (e:Expr) (t:TE):Prop :=
  ∀ (pins:List (Addr × Obj)) (s:Shared) (σ:St) (H:Hp) (Q:VK),Inv X pins σ H s → t σ H Q → wpAny (model X.prog X.w) X.A (eval e X.env) (EP X pins σ Q) X.xe s
def PT (X:Cx) (e:Expr) (t:TT):Prop :=
  ∀ (pins:List (Addr × Obj)) (s:Shared) (σ:St) (H:Hp) (Q:Bool → Hp → Prop),Inv X pins σ H s → t σ H Q → wpAny (model X.prog X.w) X.A (isTrue e X.env (eval e X.env)) (TP X pins σ Q) X.xe s
def PW (X:Cx) (e:Expr) (t:TT):Prop :=
  ∀ (whole:Sem Value) (pins:List (Addr × Obj)) (s:Shared) (σ:St) (H:Hp) (Q:Bool → Hp → Prop),Inv X pins σ H s → t σ H Q → wpAny (model X.prog X.w) X.A (isTrue e X.env whole) (TP X pins σ Q) X.xe s
theorem PW.pt {X:Cx} {e:Expr} {t:TT} (h:PW X e t):PT X e t:=h _
def PA (X:Cx) (es:List Expr) (t:TA):Prop :=
  ∀ (pos:Pos) (pins:List (Addr × Obj)) (s:Shared) (σ:St) (H:Hp) (Q:List V → Hp → Prop),Inv X pins σ H s → t σ H Q → wpAny (model X.prog X.w) X.A (spliced (backTo pos (starEach es X.env))) (AP X pins σ Q) X.xe s
def PS (X:Cx) (st:Stmt) (t:TS):Prop :=
  ∀ (pins:List (Addr × Obj)) (s:Shared) (σ:St) (H:Hp) (D:Ends),Inv X pins σ H s → t D σ H → wpAny (model X.prog X.w) X.A (exec st X.env) (SP X pins D) X.xe s
def PSs (X:Cx) (st:List Stmt) (t:TS):Prop :=
  ∀ (pins:List (Addr × Obj)) (s:Shared) (σ:St) (H:Hp) (D:Ends),Inv X pins σ H s → t D σ H → wpAny (model X.prog X.w) X.A (execs st X.env) (SP X pins D) X.xe s
theorem thn {α:Type} {t:Sem α} {Q Q':α → Shared → Prop} {M:Model} {A:Around} {E:Value → Shared → Prop} {s:Shared} (h:wpAny M A t Q E s) (hQ:∀ a s,Q a s → Q' a s):wpAny M A t Q' E s:=wpAny_mono h hQ fun _ _ x=>x
end L2
namespace L2
open PySem PySem.Spec PyProof.Rows
section
variable {X:Cx}
def tVar (i:Nat):TE:=fun σ H Q=>∃ v,σ[i]? = some (some v) ∧ Q v H
def tC (v:V):TE:=fun _ H Q=>Q v H
theorem pe_var {i:Nat} {x:Str} {pos:Pos} (hN:X.N[i]? = some x) (hv:Vis X.env.scope x) (hd:(x == ("__debug__":Str)) = false:=by decide) (hcd:(x == ("__classdict__":Str)) = false:=by decide):PE X (.Name x pos) (tVar i):=by
  intro pins s σ H Q I h
  obtain ⟨v,e,h⟩:=h
  obtain ⟨m,hn,hl⟩:=I.loc
  obtain ⟨u,r,l⟩:=hl i x v hN e hv
  have fin:EP X pins σ Q u s:=⟨v,H,I,r,h⟩
  rcases l with ⟨hk,hm⟩ | ⟨hk,c,hc,hcell⟩
  · exact wpAny_Name (wpAny_loadName_local I.ok.kind hk hn hm fin) hd
  · rcases hk with hk | hk
    · exact wpAny_Name (wpAny_loadName_cell I.ok.kind hk hc hcell fin) hd
    · exact wpAny_Name (wpAny_loadName_free I.ok.kind hk hc hcell fin hcd) hd
theorem pe_int {i j pos}:PE X (.Constant (.int i) j pos) (tC (.int i)):=fun _ _ _ H _ I h=>wpAny_Constant_int ⟨.int i,H,I.tok _,⟨_,rfl⟩,h⟩
theorem pe_bl {b j pos}:PE X (.Constant (.bool b) j pos) (tC (.bl b)):=fun _ _ _ H _ I h=>Constant_bool ⟨.bl b,H,I,rfl,h⟩
theorem pe_str {x j pos}:PE X (.Constant (.str x) j pos) (tC (.str x)):=fun _ _ _ H _ I h=>Calls.Constant_str ⟨.str x,H,I.tok _,⟨_,rfl⟩,h⟩
def Gl (X:Cx) (x:Str):Prop:=X.env.kindOf x = some .globalImplicit
theorem ld_glob {E:Value → Shared → Prop} {pins:List (Addr × Obj)} {s:Shared} {σ:St} {H:Hp} {x:Str} {u:Value} {pos:Pos} {Q:Value → Shared → Prop} (I:Inv X pins σ H s) (hg:Gl X x) (hm:X.mg x = some u) (h:Q u s)
    (hd:(x == ("__debug__":Str)) = false:=by decide):wpAny (model X.prog X.w) X.A (eval (.Name x pos) X.env) Q E s :=
  Calls.Name_function_global I.ok.kind hg (Calls.loadGlobal_global (by rw [I.ok.glob]; exact I.mod.glob.keeps I.bk) hm h) hd
theorem ld_blt {E:Value → Shared → Prop} {pins:List (Addr × Obj)} {s:Shared} {σ:St} {H:Hp} {x:Str} {u:Value} {pos:Pos} {Q:Value → Shared → Prop} (I:Inv X pins σ H s) (hg:Gl X x) (hm:X.mg x = none) (hv:bootBuiltins x = some u) (h:Q u s)
    (hn:x ≠ "__name__":=by decide) (hd:(x == ("__debug__":Str)) = false:=by decide):wpAny (model X.prog X.w) X.A (eval (.Name x pos) X.env) Q E s:=by
  obtain ⟨mb,h1,h2⟩:=I.mod.blt
  exact Calls.Name_function_global I.ok.kind hg (Calls.loadGlobal_builtin (by rw [I.ok.glob]; exact I.mod.glob.keeps I.bk) hm (by rw [I.ok.blt]; exact h1.keeps I.bk) ((h2 x hn).trans hv) h) hd
theorem pe_glob {x:Str} {v:V} {u:Value} {pos:Pos} (hg:Gl X x) (hm:X.mg x = some u) (r:RelV v u) (hd:(x == ("__debug__":Str)) = false:=by decide):PE X (.Name x pos) (tC v) :=
  fun _ _ _ H _ I h=>ld_glob I hg hm ⟨v,H,I,r,h⟩ hd
theorem pe_bltn {x:Str} {v:V} {u:Value} {pos:Pos} (hg:Gl X x) (hm:X.mg x = none) (hv:bootBuiltins x = some u) (r:RelV v u) (hn:x ≠ "__name__":=by decide) (hd:(x == ("__debug__":Str)) = false:=by decide):PE X (.Name x pos) (tC v) :=
  fun _ _ _ H _ I h=>ld_blt I hg hm hv ⟨v,H,I,r,h⟩ hn hd
def t2I (ta tb:TE) (k:Int → Int → Hp → Prop):St → Hp → Prop:=fun σ H=>ta σ H fun x H1=>tb σ H1 fun y H2=>∃ i j,x = .int i ∧ y = .int j ∧ k i j H2
variable {a b:Expr} {ta tb:TE} {pos:Pos}
def tCmp (p:Int → Int → Bool) (ta tb:TE):TE:=fun σ H Q=>t2I ta tb (fun i j H2=>Q (.bl (p i j)) H2) σ H
abbrev tLt:TE → TE → TE:=tCmp fun i j=>decide (i < j)
abbrev tLe:TE → TE → TE:=tCmp fun i j=>decide (i ≤ j)
abbrev tGt:TE → TE → TE:=tCmp fun i j=>decide (j < i)
abbrev tGe:TE → TE → TE:=tCmp fun i j=>decide (j ≤ i)
abbrev tEqI:TE → TE → TE:=tCmp fun i j=>decide (i = j)
abbrev tNeI:TE → TE → TE:=tCmp fun i j=>!decide (i = j)
def tB (t:TE):TT:=fun σ H Q=>t σ H fun x H1=>∃ c,x = .bl c ∧ Q c H1
theorem pt_val {e:Expr} {t:TE} (h:PE X e t) (he:∀ whole,isTrue e X.env whole = (do let v ← whole; standAt e.pos; holding [v] (truthy v)):=by intro _; rfl):PT X e (tB t):=by
  intro pins s σ H Q I hw
  refine isTrue_plain (thn (h pins s σ H _ I hw) fun v s1 ⟨x,H1,I1,r1,q1⟩=>?_) (he _)
  obtain ⟨d,rfl,q⟩:=q1
  cases r1
  exact wpAny_truthy_bool ⟨H1,I1,q⟩
variable {tA tB':TT} {rest:List Expr}
def tAnd (t u:TT):TT:=fun σ H Q=>t σ H fun c H1=>if c = true then u σ H1 Q else Q false H1
def tOr (t u:TT):TT:=fun σ H Q=>t σ H fun c H1=>if c = true then Q true H1 else u σ H1 Q
def tNot (t:TT):TT:=fun σ H Q=>t σ H fun c H1=>Q (!c) H1
theorem pw_and1 (ha:PT X a tA):PW X (.BoolOp .And [a] pos) tA:=by
  intro wh pins s σ H Q I h
  refine isTrue_and (thn (ha pins s σ H Q I h) fun c s1 e=>?_)
  cases c with
  | true=>exact isTrue_and_nil e
  | false=>exact e
theorem pw_or1 (ha:PT X a tA):PW X (.BoolOp .Or [a] pos) tA:=by
  intro wh pins s σ H Q I h
  refine isTrue_or (thn (ha pins s σ H Q I h) fun c s1 e=>?_)
  cases c with
  | false=>exact isTrue_or_nil e
  | true=>exact e
theorem pw_and (ha:PT X a tA) (hb:PW X (.BoolOp .And (b :: rest) pos) tB'):PW X (.BoolOp .And (a :: b :: rest) pos) (tAnd tA tB'):=by
  intro wh pins s σ H Q I h
  refine isTrue_and (thn (ha pins s σ H _ I h) fun c s1 ⟨H1,I1,q1⟩=>?_)
  cases c with
  | true=>exact hb wh pins s1 σ H1 Q I1 q1
  | false=>exact ⟨H1,I1,q1⟩
theorem pw_or (ha:PT X a tA) (hb:PW X (.BoolOp .Or (b :: rest) pos) tB'):PW X (.BoolOp .Or (a :: b :: rest) pos) (tOr tA tB'):=by
  intro wh pins s σ H Q I h
  refine isTrue_or (thn (ha pins s σ H _ I h) fun c s1 ⟨H1,I1,q1⟩=>?_)
  cases c with
  | true=>exact ⟨H1,I1,q1⟩
  | false=>exact hb wh pins s1 σ H1 Q I1 q1
theorem pt_not (ha:PT X a tA):PT X (.UnaryOp .Not a pos) (tNot tA):=by
  intro pins s σ H Q I h
  exact isTrue_not (ha pins s σ H (fun c H1=>Q (!c) H1) I h)
def tAndV (ta tb:TE):TE:=fun σ H Q=>ta σ H fun x H1=>∃ c,x = .bl c ∧ if c = true then tb σ H1 Q else Q (.bl false) H1
def tOrV (ta tb:TE):TE:=fun σ H Q=>ta σ H fun x H1=>∃ c,x = .bl c ∧ if c = true then Q (.bl true) H1 else tb σ H1 Q
def tNotV (ta:TE):TE:=fun σ H Q=>ta σ H fun x H1=>∃ c,x = .bl c ∧ Q (.bl (!c)) H1
theorem pe_one {op} {t:TE} (h:PE X a t):PE X (.BoolOp op [a] pos) t:=fun pins s σ H Q I hw=>BoolOp_one (h pins s σ H Q I hw)
theorem pe_and (ha:PE X a ta) (hb:PE X (.BoolOp .And (b :: rest) pos) tb):PE X (.BoolOp .And (a :: b :: rest) pos) (tAndV ta tb):=by
  intro pins s σ H Q I h
  refine BoolOp_and (thn (ha pins s σ H _ I h) fun v s1 ⟨x,H1,I1,r1,q1⟩=>?_)
  obtain ⟨c,rfl,q1⟩:=q1
  cases r1
  refine wpAny_truthy_bool ?_
  cases c with
  | true=>exact hb pins s1 σ H1 Q I1 q1
  | false=>exact ⟨.bl false,H1,I1,rfl,q1⟩
theorem pe_not (ha:PE X a ta):PE X (.UnaryOp .Not a pos) (tNotV ta):=by
  intro pins s σ H Q I h
  refine UnaryOp_ (thn (ha pins s σ H _ I h) fun v s1 ⟨x,H1,I1,r1,q1⟩=>?_)
  obtain ⟨c,rfl,q1⟩:=q1
  cases r1
  exact not_of (wpAny_truthy_bool ⟨.bl (!c),H1,I1,rfl,q1⟩)
def tIf (t:TT) (ta tb:TE):TE:=fun σ H Q=>t σ H fun c H1=>if c = true then ta σ H1 Q else tb σ H1 Q
theorem pe_ifExp {c:Expr} (hc:PT X c tA) (ha:PE X a ta) (hb:PE X b tb):PE X (.IfExp c a b pos) (tIf tA ta tb):=by
  intro pins s σ H Q I h
  refine wpAny_IfExp (thn (hc pins s σ H _ I h) fun d s1 ⟨H1,I1,q1⟩=>?_)
  cases d with
  | true=>exact ha pins s1 σ H1 Q I1 q1
  | false=>exact hb pins s1 σ H1 Q I1 q1
end
end L2
namespace L2
open PySem PySem.Spec PyProof.Rows
def SqL (K:PySem.W.Frag) (H:Hp) (a:Addr) (xs:List V):Prop :=
  Rd H a (.lst xs) ∨
    ∃ (o:Obj) (its:Array Value) (n:Nat),K.lookup a = some o ∧ o.cls = .type "list" ∧ o.dict = none ∧ o.data = .seq its n ∧ its.size ≤ sizeLine ∧ Vals xs its.toList
def SqT (K:PySem.W.Frag) (H:Hp) (a:Addr) (xs:List V):Prop :=
  Rd H a (.tup xs) ∨
    ∃ (o:Obj) (its:Array Value) (n:Nat),K.lookup a = some o ∧ o.cls = .type "tuple" ∧ o.data = .seq its n ∧ its.size ≤ sizeLine ∧ Vals xs its.toList
def absV:Value → Option V
  | .none=>some .non
  | .bool b=>some (.bl b)
  | .int i _=>some (.int i)
  | .str x _=>some (.str x)
  | .bytes b _=>some (.byt b)
  | .float b _=>some (.flt b)
  | .ref a=>some (.ref a)
  | .type n=>some (.ty n)
  | _=>none
theorem RelV.abs {x:V} {u:Value} (r:RelV x u):absV u = some x:=by
  cases x with
  | non=>cases r; rfl
  | bl _=>cases r; rfl
  | int _=>obtain ⟨t,rfl⟩:=r; rfl
  | str _=>obtain ⟨t,rfl⟩:=r; rfl
  | byt _=>obtain ⟨t,rfl⟩:=r; rfl
  | flt _=>obtain ⟨t,rfl⟩:=r; rfl
  | ref _=>cases r; rfl
  | ty _=>cases r; rfl
theorem RelV.inj {x y:V} {u:Value} (r:RelV x u) (q:RelV y u):x = y:=Option.some.inj (r.abs.symm.trans q.abs)
theorem Vals.inj:∀ {xs ys:List V} {us:List Value},Vals xs us → Vals ys us → xs = ys
  | _,_,_,.nil,.nil=>rfl
  | _,_,_,.cons r t,.cons r' t'=>by rw [r.inj r',Vals.inj t t']
section
variable {X:Cx} {pins:List (Addr × Obj)} {σ:St} {H:Hp} {s:Shared} {a:Addr} {xs ys:List V}
theorem SqL.of {K:PySem.W.Frag} (h:H a = some (.lst xs)):SqL K H a xs:=.inl (.inl h)
theorem SqT.of {K:PySem.W.Frag} (h:H a = some (.tup xs)):SqT K H a xs:=.inl (.inl h)
theorem Inv.list (I:Inv X pins σ H s) (h:SqL X.K H a xs):∃ its:List Value,Vals xs its ∧ PlainL s.heap a its.toArray ∧ xs.length ≤ sizeLine:=by
  rcases h with h | ⟨o,its,n,hk,hc,hd,hs,hz,r⟩
  · obtain ⟨z,its,n,r,e⟩:=h.ok I.hok
    exact ⟨its,r,⟨_,n,e,rfl,rfl,rfl⟩,z⟩
  · refine ⟨its.toList,r,⟨o,n,I.kIn a o hk,hc,hd,by simpa using hs⟩,?_⟩
    have e:=r.length
    simp only [Array.length_toList] at e
    omega
theorem Inv.tuple (I:Inv X pins σ H s) (h:SqT X.K H a xs):∃ its:List Value,Vals xs its ∧ IsTup s.heap a its.toArray ∧ xs.length ≤ sizeLine:=by
  rcases h with h | ⟨o,its,n,hk,hc,hs,hz,r⟩
  · obtain ⟨z,its,r,p⟩:=h.ok I.hok
    exact ⟨its,r,p,z⟩
  · refine ⟨its.toList,r,⟨o,I.kIn a o hk,hc,n,by simpa using hs⟩,?_⟩
    have e:=r.length
    simp only [Array.length_toList] at e
    omega
theorem Inv.list_inj (I:Inv X pins σ H s) (h:SqL X.K H a xs) (h':SqL X.K H a ys):xs = ys:=by
  obtain ⟨its,r,⟨o,n,e,_,_,d⟩,_⟩:=I.list h
  obtain ⟨its',r',⟨o',n',e',_,_,d'⟩,_⟩:=I.list h'
  rw [e] at e'; cases e'
  rw [d] at d'
  injection d' with d1 _
  have:its = its':=by simpa using congrArg Array.toList d1
  subst this
  exact r.inj r'
theorem Inv.tuple_inj (I:Inv X pins σ H s) (h:SqT X.K H a xs) (h':SqT X.K H a ys):xs = ys:=by
  obtain ⟨its,r,⟨o,e,_,n,d⟩,_⟩:=I.tuple h
  obtain ⟨its',r',⟨o',e',_,n',d'⟩,_⟩:=I.tuple h'
  rw [e] at e'; cases e'
  rw [d] at d'
  injection d' with d1 _
  have:its = its':=by simpa using congrArg Array.toList d1
  subst this
  exact r.inj r'
end
abbrev Cx.wish (X:Cx) (E:Value → Shared → Prop):Cx:={ X with xe:=E }
abbrev Cx.nox (X:Cx):Cx:=X.wish fun _ _=>False
theorem Cx.Ok.wish {X:Cx} (ok:X.Ok) (E:Value → Shared → Prop):(X.wish E).Ok :=
  ⟨ok.mod,ok.kind,ok.glob,ok.blt,ok.above,ok.inj,ok.has,ok.cab,ok.hd,ok.frames,ok.stk,ok.exf,ok.bs,ok.bsz,ok.noex,ok.exfs,ok.funs,ok.frf⟩
theorem Cx.Ok.unwish {X:Cx} {E:Value → Shared → Prop} (ok:(X.wish E).Ok):X.Ok :=
  ⟨ok.mod,ok.kind,ok.glob,ok.blt,ok.above,ok.inj,ok.has,ok.cab,ok.hd,ok.frames,ok.stk,ok.exf,ok.bs,ok.bsz,ok.noex,ok.exfs,ok.funs,ok.frf⟩
section
variable {X:Cx} {pins:List (Addr × Obj)} {σ:St} {H:Hp} {s:Shared} {E:Value → Shared → Prop}
theorem Inv.wish (I:Inv X pins σ H s) (E:Value → Shared → Prop):Inv (X.wish E) pins σ H s:=⟨I.ok.wish E,I.os,I.bare,I.base,I.loc,I.cell,I.free,I.freeC,I.pin,I.hok,I.len⟩
theorem Inv.unwish (I:Inv (X.wish E) pins σ H s):Inv X pins σ H s:=⟨I.ok.unwish,I.os,I.bare,I.base,I.loc,I.cell,I.free,I.freeC,I.pin,I.hok,I.len⟩
theorem SP.unwish {D:Ends} {f:Flow} {s':Shared} (h:SP (X.wish E) pins D f s'):SP X pins D f s':=by
  cases f with
  | next=>obtain ⟨σ',H',I,q⟩:=h; exact ⟨σ',H',I.unwish,q⟩
  | brk=>obtain ⟨σ',H',I,q⟩:=h; exact ⟨σ',H',I.unwish,q⟩
  | cont=>obtain ⟨σ',H',I,q⟩:=h; exact ⟨σ',H',I.unwish,q⟩
  | ret u=>obtain ⟨v,σ',H',I,r,q⟩:=h; exact ⟨v,σ',H',I.unwish,r,q⟩
theorem PE.nox {e:Expr} {t:TE} (h:PE X.nox e t):PE X e t:=fun pins s σ H Q I hw =>
  wpAny_mono (h pins s σ H Q (I.wish _) hw) (fun _ _ ⟨v,H',I',r,q⟩=>⟨v,H',I'.unwish,r,q⟩) fun _ _ z=>False.elim z
theorem PT.nox {e:Expr} {t:TT} (h:PT X.nox e t):PT X e t:=fun pins s σ H Q I hw =>
  wpAny_mono (h pins s σ H Q (I.wish _) hw) (fun _ _ ⟨H',I',q⟩=>⟨H',I'.unwish,q⟩) fun _ _ z=>False.elim z
theorem PSs.nox {st:List Stmt} {t:TS} (h:PSs X.nox st t):PSs X st t:=fun pins s σ H D I hw =>
  wpAny_mono (h pins s σ H D (I.wish _) hw) (fun _ _ q=>q.unwish) fun _ _ z=>False.elim z
end
section
variable {X:Cx} {st:Stmt} {rest:List Stmt} {t u:TS} {e:Expr} {te:TE} {pos:Pos}
def tNext:TS:=fun D σ H=>D.nx σ H
def tSeq (t u:TS):TS:=fun D σ H=>t { D with nx:=u D } σ H
theorem pss_nil:PSs X [] tNext:=fun _ _ σ H _ I h=>wpAny_execs_nil ⟨σ,H,I,h⟩
theorem pss_cons (h1:PS X st t) (h2:PSs X rest u):PSs X (st :: rest) (tSeq t u):=by
  intro pins s σ H D I h
  refine wpAny_execs_cons (thn (h1 pins s σ H { D with nx:=u D } I h) fun f s1 q=>?_)
  cases f with
  | next =>
    obtain ⟨σ',H',I',q⟩:=q
    exact h2 pins s1 σ' H' D I' q
  | ret v=>exact q
  | brk=>exact q
  | cont=>exact q
theorem pss_one (h1:PS X st t):PSs X [st] t:=by
  intro pins s σ H D I h
  refine wpAny_execs_cons (thn (h1 pins s σ H D I h) fun f s1 q=>?_)
  cases f with
  | next=>exact wpAny_execs_nil q
  | ret v=>exact q
  | brk=>exact q
  | cont=>exact q
theorem Inv.quiet {pins:List (Addr × Obj)} {σ:St} {H:Hp} {s:Shared} (I:Inv X pins σ H s):interactive X.env = false:=by simp [interactive,I.ok.kind]
def tDrop (te:TE):TS:=fun D σ H=>te σ H fun _ H1=>D.nx σ H1
theorem ps_expr (he:PE X e te) (hs:swapsWith e none pos.line X.env = pure false:=by rfl):PS X (.Expr e pos) (tDrop te):=by
  intro pins s σ H D I h
  exact wpAny_Expr_any (thn (he pins s σ H _ I h) fun v s1 ⟨x,H1,I1,r1,q1⟩=>⟨σ,H1,I1,q1⟩) I.quiet hs
def tRet (te:TE):TS:=fun D σ H=>te σ H D.rt
theorem ps_ret (he:PE X e te):PS X (.Return (some e) pos) (tRet te):=by
  intro pins s σ H D I h
  exact wpAny_Return_some (thn (he pins s σ H _ I h) fun v s1 ⟨x,H1,I1,r1,q1⟩=>⟨x,σ,H1,I1,r1,q1⟩)
def tRetN:TS:=fun D _ H=>D.rt .non H
def tIfS (c:TT) (t u:TS):TS:=fun D σ H=>c σ H fun b H1=>if b = true then t D σ H1 else u D σ H1
theorem ps_if {c:Expr} {a b:List Stmt} {tc:TT} (hc:PT X c tc) (ha:PSs X a t) (hb:PSs X b u):PS X (.If c a b pos) (tIfS tc t u):=by
  intro pins s σ H D I h
  refine wpAny_If (thn (hc pins s σ H _ I h) fun d s1 ⟨H1,I1,q1⟩=>?_)
  cases d with
  | true=>exact ha pins s1 σ H1 D I1 q1
  | false=>exact hb pins s1 σ H1 D I1 q1
def tNever:TS:=fun _ _ _=>False
end
abbrev TG:=V → St → Hp → (St → Hp → Prop) → Prop
abbrev TGs:=List V → St → Hp → (St → Hp → Prop) → Prop
def PG (X:Cx) (target:Expr) (t:TG):Prop :=
  ∀ (pins:List (Addr × Obj)) (s:Shared) (σ:St) (H:Hp) (v:V) (u:Value) (Q:St → Hp → Prop),Inv X pins σ H s → RelV v u → t v σ H Q →
    wpAny (model X.prog X.w) X.A (assign target X.env u) (fun _ s'=>∃ σ' H',Inv X pins σ' H' s' ∧ Q σ' H') X.xe s
def PGs (X:Cx) (ts:List Expr) (t:TGs):Prop :=
  ∀ (pins:List (Addr × Obj)) (s:Shared) (σ:St) (H:Hp) (vs:List V) (us:List Value) (Q:St → Hp → Prop),Inv X pins σ H s → Vals vs us → t vs σ H Q →
    wpAny (model X.prog X.w) X.A (assignInOrder ((assignEach ts X.env).map (·.2)) us) (fun _ s'=>∃ σ' H',Inv X pins σ' H' s' ∧ Q σ' H') X.xe s
abbrev TSet:=V → V → V → Hp → (Hp → Prop) → Prop
abbrev TIp:=V → V → Hp → VK → Prop
def PIp (X:Cx) (op:Operator) (t:TIp):Prop :=
  ∀ (pins:List (Addr × Obj)) (s:Shared) (σ:St) (H:Hp) (x y:V) (v u:Value) (Q:VK),Inv X pins σ H s → RelV x v → RelV y u → t x y H Q →
    wpAny (model X.prog X.w) X.A (inplaceOp op v u) (EP X pins σ Q) X.xe s
section
variable {X:Cx} {pos:Pos}
def gName (i:Nat):TG:=fun v σ H Q=>Q (σ.set i (some v)) H
theorem pg_name {i:Nat} {x:Str} (hN:X.N.Nodup) (hi:X.N[i]? = some x) (hx:Loc X.env.scope x) (hf:X.fn x = true ∨ X.env.scope.names.lookup x = some .local:=by first | exact .inl rfl | exact .inr rfl | assumption):PG X (.Name x pos) (gName i):=by
  intro pins s σ H v u Q I r h
  exact wpAny_assign_Name (store_ok I hN hi hx r (fun s' I'=>⟨_,H,I',h⟩) hf)
def gNil:TGs:=fun vs σ H Q=>vs = [] ∧ Q σ H
def gCons (t:TG) (u:TGs):TGs:=fun vs σ H Q=>∃ v r,vs = v :: r ∧ t v σ H fun σ' H'=>u r σ' H' Q
theorem pgs_nil:PGs X [] gNil:=by
  intro pins s σ H vs us Q I r h
  obtain ⟨e,h⟩:=h
  subst e
  cases r
  exact assignInOrder_nil ⟨σ,H,I,h⟩
theorem pgs_cons {e:Expr} {es:List Expr} {t:TG} {u:TGs} (h1:PG X e t) (h2:PGs X es u)
    (hs:(assignEach (e :: es) X.env).map (·.2) = assign e X.env :: (assignEach es X.env).map (·.2):=by rfl):PGs X (e :: es) (gCons t u):=by
  intro pins s σ H vs us Q I r h
  obtain ⟨v,vr,e1,h⟩:=h
  subst e1
  cases r with
  | cons r rr =>
    rw [hs]
    refine assignInOrder_cons (thn (h1 pins s σ H _ _ _ I r h) fun _ s1 ⟨σ1,H1,I1,q1⟩=>?_)
    exact h2 pins s1 σ1 H1 _ _ Q I1 rr q1
def gTup (K:PySem.W.Frag) (n:Nat) (t:TGs):TG:=fun v σ H Q=>∃ a xs,v = .ref a ∧ SqT K H a xs ∧ xs.length = n ∧ t xs σ H Q
theorem pg_tup {es:List Expr} {k:Nat} {t:TGs} {n:Nat} (hc:X.calm = true) (h:PGs X es t)
    (hn:(assignEach es X.env).length = n:=by rfl) (hst:(assignEach es X.env).findIdx? (·.1) = none:=by rfl):PG X (.Tuple es k pos) (gTup X.K n t):=by
  intro pins s σ H v u Q I r hw
  obtain ⟨a,xs,e1,hq,hl,hw⟩:=hw
  subst e1
  cases r
  obtain ⟨its,rv,ht,hz⟩:=I.tuple hq
  refine assign_Tuple_tuple (I.ok.hd hc) ht (by simp [hn,← hl,rv.length]) hst fun h' hx=>?_
  have I1:Inv X pins σ H { s with heap:=h' }:=I.kept (t':=s.toks) fun b o e=>hx b o (Nat.ne_of_lt (Heap.lt_size e)) e
  exact h pins _ σ H xs _ Q I1 (by simpa using rv) hw
def gSub (to ti:TE) (t:TSet):TG:=fun v σ H Q=>to σ H fun o H1=>ti σ H1 fun i H2=>t o i v H2 fun H3=>Q σ H3
def tAsg (te:TE) (g:TG):TS:=fun D σ H=>te σ H fun x H1=>g x σ H1 D.nx
theorem ps_set {i:Nat} {x:Str} {e:Expr} {te:TE} {pos':Pos} (hN:X.N.Nodup) (hi:X.N[i]? = some x) (hx:Loc X.env.scope x) (he:PE X e te) (hs:swapsWith e (some (.Name x pos')) pos.line X.env = pure false:=by rfl) (hf:X.fn x = true ∨ X.env.scope.names.lookup x = some .local:=by first | exact .inl rfl | exact .inr rfl | assumption) :
    PS X (.Assign [.Name x pos'] e pos) (tAsg te (gName i)):=by
  intro pins s σ H D I h
  refine wpAny_Assign_Name (thn (he pins s σ H _ I h) fun v s1 ⟨y,H1,I1,r1,q1⟩=>?_) hs
  exact store_ok I1 hN hi hx r1 (fun s2 I2=>⟨_,H1,I2,q1⟩) hf
def tAug (i:Nat) (te:TE) (ti:TIp):TS:=fun D σ H=>∃ x,σ[i]? = some (some x) ∧ te σ H fun y H1=>ti x y H1 fun z H2=>D.nx (σ.set i (some z)) H2
theorem ps_aug {i:Nat} {x:Str} {e:Expr} {te:TE} {op:Operator} {ti:TIp} {pos':Pos} (hN:X.N.Nodup) (hi:X.N[i]? = some x) (hx:Loc X.env.scope x) (he:PE X e te) (ho:PIp X op ti) (hf:X.fn x = true ∨ X.env.scope.names.lookup x = some .local:=by first | exact .inl rfl | exact .inr rfl | assumption) :
    PS X (.AugAssign (.Name x pos') op e pos) (tAug i te ti):=by
  intro pins s σ H D I h
  obtain ⟨v,e1,h⟩:=h
  obtain ⟨m,hn,hl⟩:=I.loc
  have vis:Vis X.env.scope x:=by rcases hx with k | k; exact .inl k; exact .inr (.inl k)
  obtain ⟨u,r,l⟩:=hl i x v hi e1 vis
  refine wpAny_AugAssign_Name ?_
  have go:wpAny (model X.prog X.w) X.A (eval e X.env) (fun w s₂=>wpAny (model X.prog X.w) X.A (inplaceOp op u w) (fun r s₃=>wpAny (model X.prog X.w) X.A (storeName X.env x r) (fun _=>SP X pins D .next) X.xe s₃) X.xe s₂) X.xe s:=by
    refine thn (he pins s σ H _ I h) fun w s1 ⟨y,H1,I1,r1,q1⟩=>?_
    refine thn (ho pins s1 σ H1 v y u w _ I1 r r1 q1) fun z s2 ⟨zv,H2,I2,r2,q2⟩=>?_
    exact store_ok I2 hN hi hx r2 (fun s3 I3=>⟨_,H2,I3,q2⟩) hf
  rcases l with ⟨hk,hm⟩ | ⟨hk,c,hc,hcell⟩
  · exact wpAny_loadName_local I.ok.kind hk hn hm go
  · rcases hk with hk | hk
    · exact wpAny_loadName_cell I.ok.kind hk hc hcell go
    · rcases hx with k | k
      · have:X.env.scope.names.lookup x = some .free:=hk
        rw [k] at this; cases this
      · have:X.env.scope.names.lookup x = some .free:=hk
        rw [k] at this; cases this
def ipI (f:Int → Int → Int):TIp:=fun x y H Q=>∃ i j,x = .int i ∧ y = .int j ∧ Q (.int (f i j)) H
theorem ip_add:PIp X .Add (ipI fun i j=>i + j):=by
  intro pins s σ H x y v u Q I r1 r2 h
  obtain ⟨i,j,e1,e2,q⟩:=h
  subst e1; subst e2
  obtain ⟨t,rfl⟩:=r1
  obtain ⟨t',rfl⟩:=r2
  exact iadd_int ⟨.int _,H,I.tok _,⟨_,rfl⟩,q⟩
end
section
variable {X:Cx} {pos:Pos}
def tWhile (c:TT) (tb:TS):TS:=fun D σ H=>∃ W:Nat → St → Hp → Prop,(∃ m,W m σ H) ∧ ∀ m σ H,W m σ H →
  c σ H fun b H1=>if b = true then ∃ N:St → Hp → Prop,(∀ σ' H',N σ' H' → ∃ m',m' < m ∧ W m' σ' H') ∧ tb { D with nx:=N,ct:=N,bk:=D.nx } σ H1 else D.nx σ H1
theorem ps_while {c:Expr} {body:List Stmt} {tc:TT} {tb:TS} (hp:PassesOwn (model X.prog X.w) X.A X.env X.xe) (hc:PT X c tc) (hb:PSs X body tb):PS X (.While c body [] pos) (tWhile tc tb):=by
  intro pins s σ H D I h
  obtain ⟨W,⟨m0,w0⟩,turn⟩:=h
  refine wpAny_While (codeAny_whileLoop (fun n s'=>∃ σ' H',Inv X pins σ' H' s' ∧ W n σ' H') ?_ m0 ⟨σ,H,I,w0⟩)
  rintro n s1 ⟨σ1,H1,I1,w1⟩
  refine wpAny_passesOwn hp (thn (hc pins s1 σ1 H1 _ I1 (turn n σ1 H1 w1)) fun b s2 ⟨H2,I2,q2⟩=>?_)
  cases b with
  | true =>
    obtain ⟨N,hN,q2⟩:=q2
    rw [if_pos rfl]
    refine wpAny_passesOwn hp (thn (hb pins s2 σ1 H2 _ I2 q2) fun f s3 q3=>?_)
    cases f with
    | next =>
      obtain ⟨σ3,H3,I3,n3⟩:=q3
      obtain ⟨m',hm,w3⟩:=hN σ3 H3 n3
      exact ⟨m',hm,σ3,H3,I3,w3⟩
    | cont =>
      obtain ⟨σ3,H3,I3,n3⟩:=q3
      obtain ⟨m',hm,w3⟩:=hN σ3 H3 n3
      exact ⟨m',hm,σ3,H3,I3,w3⟩
    | brk=>exact q3
    | ret v=>exact q3
  | false =>
    rw [if_neg Bool.false_ne_true]
    exact wpAny_execs_nil ⟨σ1,H2,I2,q2⟩
end
structure It where
  go:Nat → Hp → Prop
  yld:Nat → Hp → V → Hp → Prop
  stop:Nat → Hp → Prop
def FpOk (X:Cx) (pins:List (Addr × Obj)) (H:Hp) (b:Addr):Prop :=
  H b = none ∧ b ≠ X.env.locals ∧ b ∉ X.fs ∧ (b ∈ X.ex ∨ X.s₀.heap.objs.size ≤ b) ∧ (∀ x c,X.env.cells.lookup x = some c → c ≠ b) ∧ ∀ p ∈ X.pn ++ pins,p.1 ≠ b
theorem Inv.fpOk {X:Cx} {pins:List (Addr × Obj)} {σ:St} {H H':Hp} {s:Shared} {b:Addr} (I:Inv X pins σ H s) (hb:s.heap.objs.size ≤ b) (hn:H' b = none):FpOk X pins H' b:=by
  refine ⟨hn,Nat.ne_of_gt (Nat.lt_of_lt_of_le I.lt hb),I.nofs hb,.inr (Nat.le_trans I.sz hb),fun x c e z=>?_,fun p hp z=>?_⟩
  · obtain ⟨v,q⟩:=I.cell x c e
    exact absurd (Nat.lt_of_lt_of_le q.lt (by rw [z]; exact hb)) (Nat.lt_irrefl _)
  · exact absurd (Nat.lt_of_lt_of_le (Heap.lt_size (I.pin p hp).1) (by rw [z]; exact hb)) (Nat.lt_irrefl _)
structure Turn (P:Program) (w:World) (K:PySem.W.Frag) (tg:Expr) (J:It) (fp:List Addr) (it:Addr) (tn:Nat → Heap → Prop):Prop where
  mem:it ∈ fp
  obj:∀ i h,tn i h → ∀ b ∈ fp,∃ o,h.get? b = some o ∧ ∀ v,o.data ≠ .cell v
  keep:∀ i h h',tn i h → (∀ b ∈ fp,∀ o,h.get? b = some o → h'.get? b = some o) → tn i h'
  item:∀ (X:Cx),X.prog = P → X.w = w → X.K = K → X.calm = true → ∀ (i:Nat) (pins:List (Addr × Obj)) (s:Shared) (σ:St) (H:Hp) (E:Value → Shared → Prop),Inv X pins σ H s → (∀ b ∈ fp,FpOk X pins H b) → tn i s.heap → J.go i H →
    wpAny (model P w) X.A (pyNext (.ref it)) (fun r s1=>∃ u,r = some u ∧
      wpAny (model P w) X.A (letOwnedTupleGo tg (.ref it) u) (fun _ s2=>∃ x H',Inv X pins σ H' s2 ∧ RelV x u ∧ J.yld i H x H' ∧ tn (i + 1) s2.heap ∧ ∀ b ∈ fp,H' b = none) E s1) E s
  done:∀ (X:Cx),X.prog = P → X.w = w → X.K = K → X.calm = true → ∀ (i:Nat) (pins:List (Addr × Obj)) (s:Shared) (σ:St) (H:Hp) (E:Value → Shared → Prop),Inv X pins σ H s → (∀ b ∈ fp,FpOk X pins H b) → tn i s.heap → J.stop i H →
    wpAny (model P w) X.A (pyNext (.ref it)) (fun r s1=>r = none ∧ Inv X pins σ H s1) E s
  self:∀ (A:Around) (i:Nat) (s:Shared) (Q:Value → Shared → Prop) (E:Value → Shared → Prop),tn i s.heap → Q (.ref it) s → wpAny (model P w) A (pyIter (.ref it)) Q E s
abbrev TI:=St → Hp → (It → Hp → Prop) → Prop
def PIE (X:Cx) (pins:List (Addr × Obj)) (σ:St) (tg:Expr) (R:It → Hp → Prop) (itv:Value) (s2:Shared):Prop :=
  ∃ (it:Addr) (fp:List Addr) (tn:Nat → Heap → Prop) (J:It) (H':Hp),itv = .ref it ∧ Inv X pins σ H' s2 ∧ Turn X.prog X.w X.K tg J fp it tn ∧ tn 0 s2.heap ∧ (∀ b ∈ fp,FpOk X pins H' b) ∧ R J H'
def PI (X:Cx) (tg iter:Expr) (wi:TI):Prop :=
  ∀ (pins:List (Addr × Obj)) (s:Shared) (σ:St) (H:Hp) (R:It → Hp → Prop),Inv X pins σ H s → wi σ H R →
    wpAny (model X.prog X.w) X.A (eval iter X.env) (fun v s1=>wpAny (model X.prog X.w) X.A (pyIter v) (PIE X pins σ tg R) X.xe s1) X.xe s
theorem go_of {M:Model} {A:Around} {E:Value → Shared → Prop} {s:Shared} {tg:Expr} {it:Addr} {u:Value} {o:Obj} {n:String} {vs:Array Value} {Q:Unit → Shared → Prop} (ho:s.heap.get? it = some o) (hc:o.cls = .type n) (hd:o.data = .fields vs)
    (hn:["enumerate","zip","dict_itemiterator","dict_reverseitemiterator","odict_iterator","itertools.zip_longest","itertools.pairwise"].contains n = false) (hQ:Q () s):wpAny M A (letOwnedTupleGo tg (.ref it) u) Q E s:=by
  unfold letOwnedTupleGo
  cases tg <;> first
    | exact wpAny_pure hQ
    | (cases u <;> first
        | exact wpAny_pure hQ
        | (refine wpAny_bind (wpAny_load ho ?_)
           rw [hc,hd]
           show wpAny M A (if (["enumerate","zip","dict_itemiterator","dict_reverseitemiterator","odict_iterator","itertools.zip_longest","itertools.pairwise"].contains n && vs[0]? == some (rawInt _)) = true then _ else _) Q E s
           rw [if_neg (by intro h; rw [hn,Bool.false_and] at h; cases h)]
           exact wpAny_pure hQ))
def Itl (K:PySem.W.Frag) (a:Addr):It :=
  ⟨fun i H=>∃ xs x,SqL K H a xs ∧ xs[i]? = some x,fun i H x H'=>H' = H ∧ ∀ xs,SqL K H a xs → xs[i]? = some x,fun i H=>∃ xs,SqL K H a xs ∧ xs.length ≤ i⟩
def Itt (K:PySem.W.Frag) (a:Addr):It :=
  ⟨fun i H=>∃ xs x,SqT K H a xs ∧ xs[i]? = some x,fun i H x H'=>H' = H ∧ ∀ xs,SqT K H a xs → xs[i]? = some x,fun i H=>∃ xs,SqT K H a xs ∧ xs.length ≤ i⟩
def Itr (lo:Int) (n:Nat):It:=⟨fun i _=>i < n,fun i H x H'=>H' = H ∧ x = .int (lo + i),fun i _=>n ≤ i⟩
theorem turn_list {P:Program} {w:World} {K:PySem.W.Frag} {tg:Expr} (a it:Addr):Turn P w K tg (Itl K a) [it] it (fun i h=>h.IsListIter it a i) where
  mem:=by simp
  obj:=fun i h st b hb=>by
    have e:b = it:=by simpa using hb
    subst e
    obtain ⟨o,e,c,d⟩:=st
    exact ⟨o,e,fun v z=>by rw [d] at z; cases z⟩
  keep:=fun i h h' st k=>st.at fun o e=>k it (by simp) o e
  item:=by
    intro X hP hw hK hc i pins s σ H E I hf st hg
    subst hP hw hK
    obtain ⟨xs,x,hq,hx⟩:=hg
    obtain ⟨its,rv,p,hz⟩:=I.list hq
    obtain ⟨u,hu,ru⟩:=rv.get hx
    obtain ⟨f0,f1,f2,f3,f4,f5⟩:=hf it (by simp)
    refine wpAny_pyNext_list_item st p.isList (x:=u) (by simpa using hu) fun h' st' sb=>?_
    have I1:Inv X pins σ H { s with heap:=h' }:=I.turned (t':=s.toks) (fun b o hb e=>(sb.2 b hb).trans e) f0 f1 f3 f4 f5
    obtain ⟨o,e,c,d⟩:=id st'
    exact ⟨u,rfl,go_of (s:={ s with heap:=h' }) e c d (by decide) ⟨x,H,I1,ru,⟨rfl,fun ys hy=>by rw [I.list_inj hy hq]; exact hx⟩,st',fun b hb=>(hf b hb).1⟩⟩
  done:=by
    intro X hP hw hK hc i pins s σ H E I hf st hg
    subst hP hw hK
    obtain ⟨xs,hq,hx⟩:=hg
    obtain ⟨its,rv,p,hz⟩:=I.list hq
    obtain ⟨f0,f1,f2,f3,f4,f5⟩:=hf it (by simp)
    have hl:=rv.length
    exact wpAny_pyNext_list_end (I.ok.hd hc) st p.isList (by simp; omega) fun h' eb=>⟨rfl,I.turned (t':=s.toks) (fun b o hb e=>eb b o hb e) f0 f1 f3 f4 f5⟩
  self:=fun _ _ _ _ _ st h=>wpAny_pyIter_listiter st h
theorem turn_tuple {P:Program} {w:World} {K:PySem.W.Frag} {tg:Expr} (a it:Addr):Turn P w K tg (Itt K a) [it] it (fun i h=>h.IsTupleIter it a i) where
  mem:=by simp
  obj:=fun i h st b hb=>by
    have e:b = it:=by simpa using hb
    subst e
    obtain ⟨o,e,c,d⟩:=st
    exact ⟨o,e,fun v z=>by rw [d] at z; cases z⟩
  keep:=fun i h h' st k=>st.at fun o e=>k it (by simp) o e
  item:=by
    intro X hP hw hK hc i pins s σ H E I hf st hg
    subst hP hw hK
    obtain ⟨xs,x,hq,hx⟩:=hg
    obtain ⟨its,rv,p,hz⟩:=I.tuple hq
    obtain ⟨u,hu,ru⟩:=rv.get hx
    obtain ⟨f0,f1,f2,f3,f4,f5⟩:=hf it (by simp)
    refine wpAny_pyNext_tuple_item st (show s.heap.IsTuple a its.toArray from p) (x:=u) (by simpa using hu) fun h' st' sb=>?_
    have I1:Inv X pins σ H { s with heap:=h' }:=I.turned (t':=s.toks) (fun b o hb e=>(sb.2 b hb).trans e) f0 f1 f3 f4 f5
    obtain ⟨o,e,c,d⟩:=id st'
    exact ⟨u,rfl,go_of (s:={ s with heap:=h' }) e c d (by decide) ⟨x,H,I1,ru,⟨rfl,fun ys hy=>by rw [I.tuple_inj hy hq]; exact hx⟩,st',fun b hb=>(hf b hb).1⟩⟩
  done:=by
    intro X hP hw hK hc i pins s σ H E I hf st hg
    subst hP hw hK
    obtain ⟨xs,hq,hx⟩:=hg
    obtain ⟨its,rv,p,hz⟩:=I.tuple hq
    obtain ⟨f0,f1,f2,f3,f4,f5⟩:=hf it (by simp)
    have hl:=rv.length
    exact wpAny_pyNext_tuple_end (I.ok.hd hc) st (show s.heap.IsTuple a its.toArray from p) (by simp; omega) fun h' eb=>⟨rfl,I.turned (t':=s.toks) (fun b o hb e=>eb b o hb e) f0 f1 f3 f4 f5⟩
  self:=fun _ _ _ _ _ st h=>wpAny_pyIter_tupleiter st h
theorem turn_range {P:Program} {w:World} {K:PySem.W.Frag} {tg:Expr} (it:Addr) (lo:Int) (n:Nat):Turn P w K tg (Itr lo n) [it] it (fun i h=>IsRangeIter h it (lo + (i:Nat) * 1) ((n:Int) - (i:Nat)) 1) where
  mem:=by simp
  obj:=fun i h st b hb=>by
    have e:b = it:=by simpa using hb
    subst e
    exact ⟨_,st,fun v z=>by
      have z':Data.fields _ = Data.cell v:=z
      cases z'⟩
  keep:=fun i h h' st k=>k it (by simp) _ st
  item:=by
    intro X hP hw hK hc i pins s σ H E I hf st hg
    subst hP hw hK
    obtain ⟨f0,f1,f2,f3,f4,f5⟩:=hf it (by simp)
    have W:=Walks.range (prog:=X.prog) (w:=X.w) (I.ok.hd hc) it lo 1 n
    refine W.item i s _ _ hg st fun v h' tk hv st' kk=>?_
    obtain ⟨t,rfl⟩:=hv
    have I1:Inv X pins σ H { s with heap:=h',toks:=tk }:=I.turned (fun b o hb e=>kk b o (by simpa using hb) e) f0 f1 f3 f4 f5
    refine ⟨_,rfl,go_of (s:={ s with heap:=h',toks:=tk }) (n:="range_iterator") st' rfl rfl (by decide) ⟨.int (lo + i),H,I1,⟨t,?_⟩,⟨rfl,rfl⟩,st',fun b hb=>(hf b hb).1⟩⟩
    rw [Int.mul_one]
  done:=by
    intro X hP hw hK hc i pins s σ H E I hf st hg
    subst hP hw hK
    obtain ⟨f0,f1,f2,f3,f4,f5⟩:=hf it (by simp)
    exact wpAny_pyNext_range_end (I.ok.hd hc) st (by have:n ≤ i:=hg; omega) fun h' eb=>⟨rfl,I.turned (t':=s.toks) (fun b o hb e=>eb b o hb e) f0 f1 f3 f4 f5⟩
  self:=fun _ _ _ _ _ st h=>wpAny_pyIter_rangeiter st h
end L2
namespace L2
open PySem PySem.Spec PyProof.Rows
section
variable {X:Cx} {tg:Expr}
def iList (K:PySem.W.Frag) (tl:TE):TI:=fun σ H R=>tl σ H fun x H1=>∃ a,x = .ref a ∧ (∃ xs,SqL K H1 a xs) ∧ R (Itl K a) H1
def iTup (K:PySem.W.Frag) (tl:TE):TI:=fun σ H R=>tl σ H fun x H1=>∃ a,x = .ref a ∧ (∃ xs,SqT K H1 a xs) ∧ R (Itt K a) H1
theorem pi_list {l:Expr} {tl:TE} (hl:PE X l tl):PI X tg l (iList X.K tl):=by
  intro pins s σ H R I h
  refine thn (hl pins s σ H _ I h) fun v s1 ⟨x,H1,I1,r1,q1⟩=>?_
  obtain ⟨a,e,⟨xs,hq⟩,q⟩:=q1
  subst e
  cases r1
  obtain ⟨its,rv,p,hz⟩:=I1.list hq
  refine wpAny_pyIter_list p.isList ?_
  refine ⟨s1.heap.objs.size,[s1.heap.objs.size],_,_,H1,rfl,I1.kept (t':=s1.toks) fun b o e=>Heap.get?_push_of_some _ e,turn_list a _,⟨_,Heap.get?_push_size _ rfl,rfl,rfl⟩,fun b hb=>?_,q⟩
  have e:b = s1.heap.objs.size:=by simpa using hb
  subst e
  exact I1.fpOk (Nat.le_refl _) (I1.hok.fresh (Nat.le_refl _))
theorem pi_tup {l:Expr} {tl:TE} (hl:PE X l tl):PI X tg l (iTup X.K tl):=by
  intro pins s σ H R I h
  refine thn (hl pins s σ H _ I h) fun v s1 ⟨x,H1,I1,r1,q1⟩=>?_
  obtain ⟨a,e,⟨xs,hq⟩,q⟩:=q1
  subst e
  cases r1
  obtain ⟨its,rv,p,hz⟩:=I1.tuple hq
  refine wpAny_pyIter_tuple (show s1.heap.IsTuple a its.toArray from p) ?_
  refine ⟨s1.heap.objs.size,[s1.heap.objs.size],_,_,H1,rfl,I1.kept (t':=s1.toks) fun b o e=>Heap.get?_push_of_some _ e,turn_tuple a _,⟨_,Heap.get?_push_size _ rfl,rfl,rfl⟩,fun b hb=>?_,q⟩
  have e:b = s1.heap.objs.size:=by simpa using hb
  subst e
  exact I1.fpOk (Nat.le_refl _) (I1.hok.fresh (Nat.le_refl _))
theorem range_it {pins:List (Addr × Obj)} {σ:St} {H:Hp} {s:Shared} {R:It → Hp → Prop} {E:Value → Shared → Prop} {lo hi:Int} {t u v:Tok} {tk:Nat} (I:Inv X pins σ H s) (h1:-(2 ^ 62) ≤ lo) (h2:lo < 2 ^ 62) (h3:-(2 ^ 62) ≤ hi) (h4:hi < 2 ^ 62)
    (q:R (Itr lo (hi - lo).toNat) H):wpAny (model X.prog X.w) X.A (pyIter (.ref s.heap.objs.size)) (PIE X pins σ tg R) E { s with heap:=s.heap.push { cls:=.type "range",data:=.fields #[.int lo t,.int hi u,.int 1 v] },toks:=tk }:=by
  refine wpAny_pyIter_range (IsRange.new ..) (small_one h1 h2 h3 h4) ?_
  have I1:Inv X pins σ H { s with heap:=s.heap.push { cls:=.type "range",data:=.fields #[.int lo t,.int hi u,.int 1 v] },toks:=tk }:=I.kept fun b o e=>Heap.get?_push_of_some _ e
  refine ⟨(s.heap.push { cls:=.type "range",data:=.fields #[.int lo t,.int hi u,.int 1 v] }).objs.size,[(s.heap.push { cls:=.type "range",data:=.fields #[.int lo t,.int hi u,.int 1 v] }).objs.size],_,_,H,rfl,
    I1.kept (t':=tk) fun b o e=>Heap.get?_push_of_some _ e,turn_range _ lo (hi - lo).toNat,?_,fun b hb=>?_,q⟩
  · have e1:lo + ((0:Nat):Int) * 1 = lo:=by simp
    have e2:(((hi - lo).toNat:Nat):Int) - ((0:Nat):Int) = Builtin.Range.rangeSize lo hi 1:=by rw [rangeSize_one]; split <;> omega
    show IsRangeIter _ _ (lo + ((0:Nat):Int) * 1) ((((hi - lo).toNat:Nat):Int) - ((0:Nat):Int)) 1
    rw [e1,e2]
    exact Heap.get?_push_size _ rfl
  · have e:b = (s.heap.push { cls:=.type "range",data:=.fields #[.int lo t,.int hi u,.int 1 v] }).objs.size:=by simpa using hb
    subst e
    exact I1.fpOk (Nat.le_refl _) (I1.hok.fresh (Nat.le_refl _))
def iRng1 (ta:TA):TI:=fun σ H R=>ta σ H fun vs H1=>∃ j:Int,vs = [.int j] ∧ -(2 ^ 62) ≤ j ∧ j < 2 ^ 62 ∧ R (Itr 0 j.toNat) H1
def iRng2 (ta:TA):TI:=fun σ H R=>ta σ H fun vs H1=>∃ i j:Int,vs = [.int i,.int j] ∧ (-(2 ^ 62) ≤ i ∧ i < 2 ^ 62 ∧ -(2 ^ 62) ≤ j ∧ j < 2 ^ 62) ∧ R (Itr i (j - i).toNat) H1
theorem pi_range1 {a:Expr} {ta:TA} {p pos:Pos} (hg:Gl X "range") (hm:X.mg "range" = none) (ha:PA X [a] ta) (hs:starEach [a] X.env = [(false,eval a X.env)]:=by rfl):PI X tg (.Call (.Name "range" p) [a] [] pos) (iRng1 ta):=by
  intro pins s σ H R I h
  refine Call_ (ld_blt I hg hm boot_range (PyProof.Rows.callWith_type1 (thn (ha pos pins s σ H _ I h) fun us s1 ⟨vs,H1,I1,r1,q1⟩=>?_) hs rfl))
  obtain ⟨j,e,q1,q2,q⟩:=q1
  subst e
  cases r1 with
  | cons r rr =>
    cases rr
    obtain ⟨t,rfl⟩:=r
    exact call_range_1 (range_it I1 (by omega) (by omega) q1 q2 (by simpa using q))
theorem pi_range2 {a b:Expr} {ta:TA} {p pos:Pos} (hg:Gl X "range") (hm:X.mg "range" = none) (ha:PA X [a,b] ta) (hs:starEach [a,b] X.env = [(false,eval a X.env),(false,eval b X.env)]:=by rfl) (hs2:starEach [b] X.env = [(false,eval b X.env)]:=by rfl) :
    PI X tg (.Call (.Name "range" p) [a,b] [] pos) (iRng2 ta):=by
  intro pins s σ H R I h
  refine Call_ (ld_blt I hg hm boot_range (PyProof.Rows.callWith_type1 (thn (ha pos pins s σ H _ I h) fun us s1 ⟨vs,H1,I1,r1,q1⟩=>?_) (by rw [hs,hs2]) (by rw [hs2]; rfl)))
  obtain ⟨i,j,e,⟨q1,q2,q3,q4⟩,q⟩:=q1
  subst e
  cases r1 with
  | cons r rr =>
    cases rr with
    | cons r' rr =>
      cases rr
      obtain ⟨t,rfl⟩:=r
      obtain ⟨t',rfl⟩:=r'
      exact call_range_2 (range_it I1 q1 q2 q3 q4 q)
def tFor (wi:TI) (g:TG) (tb:TS):TS:=fun D σ H=>wi σ H fun J H1=>∃ W:Nat → Nat → St → Hp → Prop,(∃ m,W 0 m σ H1) ∧ ∀ i m σ H,W i m σ H →
  (J.stop i H ∧ D.nx σ H) ∨ (J.go i H ∧ ∃ N:St → Hp → Prop,(∀ σ' H',N σ' H' → ∃ m',m' < m ∧ W (i + 1) m' σ' H') ∧ ∀ x H',J.yld i H x H' → g x σ H' fun σ2 H2=>tb { D with nx:=N,ct:=N,bk:=D.nx } σ2 H2)
def pinsAt (fp:List Addr) (h:Heap):List (Addr × Obj):=fp.filterMap fun b=>(h.get? b).map fun o=>(b,o)
theorem mem_pinsAt {fp:List Addr} {h:Heap} {b:Addr} {o:Obj} (hb:b ∈ fp) (e:h.get? b = some o):(b,o) ∈ pinsAt fp h:=List.mem_filterMap.mpr ⟨b,hb,by rw [e]; rfl⟩
theorem of_pinsAt {fp:List Addr} {h:Heap} {p:Addr × Obj} (hp:p ∈ pinsAt fp h):p.1 ∈ fp ∧ h.get? p.1 = some p.2:=by
  obtain ⟨b,hb,e⟩:=List.mem_filterMap.mp hp
  cases q:h.get? b with
  | none=>rw [q] at e; cases e
  | some o =>
    rw [q] at e
    have e':(b,o) = p:=Option.some.inj e
    subst e'
    exact ⟨hb,q⟩
theorem Inv.pinned {pins:List (Addr × Obj)} {σ:St} {H:Hp} {s:Shared} {fp:List Addr} (I:Inv X pins σ H s) (hf:∀ b ∈ fp,FpOk X pins H b) (ho:∀ b ∈ fp,∃ o,s.heap.get? b = some o ∧ ∀ v,o.data ≠ .cell v):Inv X (pins ++ pinsAt fp s.heap) σ H s :=
  I.pins_of fun p hp=>(List.mem_append.mp hp).elim (fun z=>I.pin p (List.mem_append_right _ z)) fun z=>by
    obtain ⟨hb,e⟩:=of_pinsAt z
    obtain ⟨f0,f1,f2,_⟩:=hf p.1 hb
    obtain ⟨o,e',d⟩:=ho p.1 hb
    rw [e] at e'; cases e'
    exact ⟨e,f0,f1,f2,d⟩
theorem Inv.unpinned {pins pl:List (Addr × Obj)} {σ:St} {H:Hp} {s:Shared} (I:Inv X (pins ++ pl) σ H s):Inv X pins σ H s:=I.pins_of fun p hp=>I.pin p (List.mem_append_right _ (List.mem_append_left _ hp))
theorem ps_for {iter:Expr} {body:List Stmt} {wi:TI} {g:TG} {tb:TS} {pos:Pos} (hp:PassesOwn (model X.prog X.w) X.A X.env X.xe) (hc:X.calm = true) (hi:PI X tg iter wi) (hg:PG X tg g) (hb:PSs X body tb)
    (hs:∀ x,foldedSetIterable iter X.env x = pure x:=by intro _; rfl):PS X (.For tg iter body [] pos) (tFor wi g tb):=by
  intro pins s σ H D I h
  refine wpAny_For (thn (hi pins s σ H _ I h) fun v s1 h1=>thn h1 fun itv s2 h2=>?_) hs
  obtain ⟨it,fp,tn,J,H2,e,I2,T,st2,f2,W,⟨m0,w0⟩,turn⟩:=h2
  subst e
  have stat:∀ {H':Hp},(∀ b ∈ fp,H' b = none) → ∀ b ∈ fp,FpOk X pins H' b:=fun hn b hb=>⟨hn b hb,(f2 b hb).2⟩
  refine codeAny_forLoop_any (fun n s'=>∃ i σ' H',Inv X pins σ' H' s' ∧ tn i s'.heap ∧ (∀ b ∈ fp,H' b = none) ∧ W i n σ' H') ?_ m0 ⟨0,σ,H2,I2,st2,fun b hb=>(f2 b hb).1,w0⟩
  rintro n s3 ⟨i,σ3,H3,I3,st3,fr3,w3⟩
  rcases turn i n σ3 H3 w3 with ⟨stop,qn⟩ | ⟨go,N,hN,step⟩
  · refine wpAny_passesOwn hp (thn (T.done X rfl rfl rfl hc i pins s3 σ3 H3 X.xe I3 (stat fr3) st3 stop) fun r s4 ⟨hr,I4⟩=>?_)
    subst hr
    exact wpAny_execs_nil ⟨σ3,H3,I4,qn⟩
  · refine wpAny_passesOwn hp (thn (T.item X rfl rfl rfl hc i pins s3 σ3 H3 X.xe I3 (stat fr3) st3 go) fun r s4 ⟨u,hr,h4⟩=>?_)
    subst hr
    refine wpAny_passesOwn hp (thn h4 fun _ s5 ⟨x,H5,I5,r5,y5,st5,fr5⟩=>?_)
    have I5':=I5.pinned (stat fr5) (T.obj _ _ st5)
    refine wpAny_passesOwn hp (thn (hg _ s5 σ3 H5 x u _ I5' r5 (step x H5 y5)) fun _ s6 ⟨σ6,H6,I6,q6⟩=>?_)
    refine wpAny_passesOwn hp (thn (hb _ s6 σ6 H6 _ I6 q6) fun f s7 q7=>?_)
    have again:∀ {σ7:St} {H7:Hp},Inv X (pins ++ pinsAt fp s5.heap) σ7 H7 s7 → N σ7 H7 → ∃ m,m < n ∧ ∃ i σ' H',Inv X pins σ' H' s7 ∧ tn i s7.heap ∧ (∀ b ∈ fp,H' b = none) ∧ W i m σ' H':=fun {σ7 H7} I7 n7=>by
      obtain ⟨m',hm,w7⟩:=hN σ7 H7 n7
      refine ⟨m',hm,i + 1,σ7,H7,I7.unpinned,T.keep _ _ _ st5 fun b hb o e=>(I7.pin (b,o) (List.mem_append_right _ (List.mem_append_right _ (mem_pinsAt hb e)))).1,fun b hb=>?_,w7⟩
      obtain ⟨o,e,d⟩:=T.obj _ _ st5 b hb
      exact (I7.pin (b,o) (List.mem_append_right _ (List.mem_append_right _ (mem_pinsAt hb e)))).2.1
    cases f with
    | next=>obtain ⟨σ7,H7,I7,n7⟩:=q7; exact again I7 n7
    | cont=>obtain ⟨σ7,H7,I7,n7⟩:=q7; exact again I7 n7
    | brk=>obtain ⟨σ7,H7,I7,q7⟩:=q7; exact ⟨σ7,H7,I7.unpinned,q7⟩
    | ret v=>obtain ⟨x7,σ7,H7,I7,r7,q7⟩:=q7; exact ⟨x7,σ7,H7,I7.unpinned,r7,q7⟩
end
theorem for_list {K:PySem.W.Frag} {a:Addr} {xs:List V} {g:TG} {tb:TS} {D:Ends} {σ:St} {H:Hp} (Pv:Nat → St → Hp → Prop) (h0:Pv 0 σ H) (hl:∀ i σ H,i ≤ xs.length → Pv i σ H → SqL K H a xs)
    (hs:∀ i x σ H,xs[i]? = some x → Pv i σ H → g x σ H fun σ2 H2=>tb { D with nx:=Pv (i + 1),ct:=Pv (i + 1),bk:=D.nx } σ2 H2) (hd:∀ σ H,Pv xs.length σ H → D.nx σ H) :
    ∃ W:Nat → Nat → St → Hp → Prop,(∃ m,W 0 m σ H) ∧ ∀ i m σ H,W i m σ H →
      ((Itl K a).stop i H ∧ D.nx σ H) ∨ ((Itl K a).go i H ∧ ∃ N:St → Hp → Prop,(∀ σ' H',N σ' H' → ∃ m',m' < m ∧ W (i + 1) m' σ' H') ∧ ∀ x H',(Itl K a).yld i H x H' → g x σ H' fun σ2 H2=>tb { D with nx:=N,ct:=N,bk:=D.nx } σ2 H2):=by
  refine ⟨fun i m σ H=>m = xs.length - i ∧ i ≤ xs.length ∧ Pv i σ H,⟨xs.length,by simp,Nat.zero_le _,h0⟩,?_⟩
  rintro i m σ H ⟨rfl,hi,p⟩
  have q:=hl i σ H hi p
  by_cases hlt:i < xs.length
  · refine .inr ⟨⟨xs,xs[i],q,by simp [hlt]⟩,Pv (i + 1),fun σ' H' p'=>⟨xs.length - (i + 1),by omega,rfl,hlt,p'⟩,fun x H' y=>?_⟩
    obtain ⟨e,y⟩:=y
    subst e
    exact hs i x σ _ (y xs q) p
  · have e:i = xs.length:=by omega
    subst e
    exact .inl ⟨⟨xs,q,Nat.le_refl _⟩,hd σ H p⟩
theorem for_tup {K:PySem.W.Frag} {a:Addr} {xs:List V} {g:TG} {tb:TS} {D:Ends} {σ:St} {H:Hp} (Pv:Nat → St → Hp → Prop) (h0:Pv 0 σ H) (hl:∀ i σ H,i ≤ xs.length → Pv i σ H → SqT K H a xs)
    (hs:∀ i x σ H,xs[i]? = some x → Pv i σ H → g x σ H fun σ2 H2=>tb { D with nx:=Pv (i + 1),ct:=Pv (i + 1),bk:=D.nx } σ2 H2) (hd:∀ σ H,Pv xs.length σ H → D.nx σ H) :
    ∃ W:Nat → Nat → St → Hp → Prop,(∃ m,W 0 m σ H) ∧ ∀ i m σ H,W i m σ H →
      ((Itt K a).stop i H ∧ D.nx σ H) ∨ ((Itt K a).go i H ∧ ∃ N:St → Hp → Prop,(∀ σ' H',N σ' H' → ∃ m',m' < m ∧ W (i + 1) m' σ' H') ∧ ∀ x H',(Itt K a).yld i H x H' → g x σ H' fun σ2 H2=>tb { D with nx:=N,ct:=N,bk:=D.nx } σ2 H2):=by
  refine ⟨fun i m σ H=>m = xs.length - i ∧ i ≤ xs.length ∧ Pv i σ H,⟨xs.length,by simp,Nat.zero_le _,h0⟩,?_⟩
  rintro i m σ H ⟨rfl,hi,p⟩
  have q:=hl i σ H hi p
  by_cases hlt:i < xs.length
  · refine .inr ⟨⟨xs,xs[i],q,by simp [hlt]⟩,Pv (i + 1),fun σ' H' p'=>⟨xs.length - (i + 1),by omega,rfl,hlt,p'⟩,fun x H' y=>?_⟩
    obtain ⟨e,y⟩:=y
    subst e
    exact hs i x σ _ (y xs q) p
  · have e:i = xs.length:=by omega
    subst e
    exact .inl ⟨⟨xs,q,Nat.le_refl _⟩,hd σ H p⟩
theorem for_range {lo:Int} {n:Nat} {g:TG} {tb:TS} {D:Ends} {σ:St} {H:Hp} (Pv:Nat → St → Hp → Prop) (h0:Pv 0 σ H)
    (hs:∀ i σ H,i < n → Pv i σ H → g (.int (lo + i)) σ H fun σ2 H2=>tb { D with nx:=Pv (i + 1),ct:=Pv (i + 1),bk:=D.nx } σ2 H2) (hd:∀ σ H,Pv n σ H → D.nx σ H) :
    ∃ W:Nat → Nat → St → Hp → Prop,(∃ m,W 0 m σ H) ∧ ∀ i m σ H,W i m σ H →
      ((Itr lo n).stop i H ∧ D.nx σ H) ∨ ((Itr lo n).go i H ∧ ∃ N:St → Hp → Prop,(∀ σ' H',N σ' H' → ∃ m',m' < m ∧ W (i + 1) m' σ' H') ∧ ∀ x H',(Itr lo n).yld i H x H' → g x σ H' fun σ2 H2=>tb { D with nx:=N,ct:=N,bk:=D.nx } σ2 H2):=by
  refine ⟨fun i m σ H=>m = n - i ∧ i ≤ n ∧ Pv i σ H,⟨n,by simp,Nat.zero_le _,h0⟩,?_⟩
  rintro i m σ H ⟨rfl,hi,p⟩
  by_cases hlt:i < n
  · refine .inr ⟨hlt,Pv (i + 1),fun σ' H' p'=>⟨n - (i + 1),by omega,rfl,hlt,p'⟩,fun x H' y=>?_⟩
    obtain ⟨e,y⟩:=y
    subst e y
    exact hs i σ _ hlt p
  · have e:i = n:=by omega
    subst e
    exact .inl ⟨Nat.le_refl _,hd σ H p⟩
end L2
namespace L2
open PySem PySem.Spec PyProof.Rows
abbrev R2:=V → V → Hp → VK → Prop
def OpR (X:Cx) (f:Value → Value → Sem Value) (r:R2):Prop :=
  ∀ (pins:List (Addr × Obj)) (s:Shared) (σ:St) (H:Hp) (x y:V) (v u:Value) (Q:VK),Inv X pins σ H s → RelV x v → RelV y u → r x y H Q →
    wpAny (model X.prog X.w) X.A (f v u) (EP X pins σ Q) X.xe s
def UnR (X:Cx) (f:Value → Sem Value) (r:V → Hp → VK → Prop):Prop :=
  ∀ (pins:List (Addr × Obj)) (s:Shared) (σ:St) (H:Hp) (x:V) (v:Value) (Q:VK),Inv X pins σ H s → RelV x v → r x H Q →
    wpAny (model X.prog X.w) X.A (f v) (EP X pins σ Q) X.xe s
def CallR (X:Cx) (f:Value) (r:List V → Hp → VK → Prop):Prop :=
  ∀ (pins:List (Addr × Obj)) (s:Shared) (σ:St) (H:Hp) (xs:List V) (us:List Value) (Q:VK),Inv X pins σ H s → Vals xs us → r xs H Q →
    wpAny (model X.prog X.w) X.A (call f us) (EP X pins σ Q) X.xe s
def TruR (X:Cx) (r:V → Hp → (Bool → Hp → Prop) → Prop):Prop :=
  ∀ (pins:List (Addr × Obj)) (s:Shared) (σ:St) (H:Hp) (x:V) (v:Value) (Q:Bool → Hp → Prop),Inv X pins σ H s → RelV x v → r x H Q →
    wpAny (model X.prog X.w) X.A (truthy v) (TP X pins σ Q) X.xe s
def tOp (r:R2) (ta tb:TE):TE:=fun σ H Q=>ta σ H fun x H1=>tb σ H1 fun y H2=>r x y H2 Q
def tUn (r:V → Hp → VK → Prop) (ta:TE):TE:=fun σ H Q=>ta σ H fun x H1=>r x H1 Q
def rI (C:Int → Int → Prop) (g:Int → Int → V):R2:=fun x y H Q=>∃ i j,x = .int i ∧ y = .int j ∧ C i j ∧ Q (g i j) H
def rI0 (g:Int → Int → V):R2:=fun x y H Q=>∃ i j,x = .int i ∧ y = .int j ∧ Q (g i j) H
def rU (g:Int → V):V → Hp → VK → Prop:=fun x H Q=>∃ i,x = .int i ∧ Q (g i) H
section
variable {X:Cx} {a b c:Expr} {ta tb tc:TE} {pos:Pos}
theorem binT (ha:PE X a ta) (hb:PE X b tb) {pins:List (Addr × Obj)} {s:Shared} {σ:St} {H:Hp} {R:V → V → Hp → Prop} (I:Inv X pins σ H s)
    (h:ta σ H fun x H1=>tb σ H1 fun y H2=>R x y H2) {Q:Value → Shared → Prop} {f:Value → Value → Sem Value}
    (hf:∀ v u s2 x y H2,Inv X pins σ H2 s2 → RelV x v → RelV y u → R x y H2 → wpAny (model X.prog X.w) X.A (f v u) Q X.xe s2) :
    wpAny (model X.prog X.w) X.A (eval a X.env) (fun v s₁=>wpAny (model X.prog X.w) X.A (eval b X.env) (fun u s₂=>wpAny (model X.prog X.w) X.A (f v u) Q X.xe s₂) X.xe s₁) X.xe s:=by
  refine thn (ha pins s σ H _ I h) fun v s1 ⟨x,H1,I1,r1,q1⟩=>?_
  refine thn (hb pins s1 σ H1 _ I1 q1) fun u s2 ⟨y,H2,I2,r2,q2⟩=>?_
  exact hf v u s2 x y H2 I2 r1 r2 q2
theorem pe_op {op:Operator} {r:R2} (ho:OpR X (binaryOp op) r) (ha:PE X a ta) (hb:PE X b tb):PE X (.BinOp a op b pos) (tOp r ta tb):=by
  intro pins s σ H Q I h
  exact wpAny_BinOp (binT ha hb I h fun v u s2 x y H2 I2 rx ry q=>ho pins s2 σ H2 x y v u Q I2 rx ry q)
theorem pe_un {op:UnaryOp} {r:V → Hp → VK → Prop} (ho:UnR X (unaryOp op) r) (ha:PE X a ta):PE X (.UnaryOp op a pos) (tUn r ta):=by
  intro pins s σ H Q I h
  exact UnaryOp_ (thn (ha pins s σ H _ I h) fun v s1 ⟨x,H1,I1,r1,q1⟩=>ho pins s1 σ H1 x v Q I1 r1 q1)
theorem opI {f:Value → Value → Sem Value} {C:Int → Int → Prop} {g:Int → Int → Int}
    (rule:∀ (i j:Int) (t u:Tok) (s:Shared) (Q:Value → Shared → Prop) (E:Value → Shared → Prop),C i j → Q (.int (g i j) s.toks) { s with toks:=s.toks + 1 } → wpAny (model X.prog X.w) X.A (f (.int i t) (.int j u)) Q E s) :
    OpR X f (rI C fun i j=>.int (g i j)):=by
  intro pins s σ H x y v u Q I rx ry h
  obtain ⟨i,j,rfl,rfl,hc,q⟩:=h
  obtain ⟨t,rfl⟩:=rx
  obtain ⟨t',rfl⟩:=ry
  exact rule i j t t' s _ _ hc ⟨.int (g i j),H,I.tok _,⟨_,rfl⟩,q⟩
theorem opI0 {f:Value → Value → Sem Value} {g:Int → Int → Int}
    (rule:∀ (i j:Int) (t u:Tok) (s:Shared) (Q:Value → Shared → Prop) (E:Value → Shared → Prop),Q (.int (g i j) s.toks) { s with toks:=s.toks + 1 } → wpAny (model X.prog X.w) X.A (f (.int i t) (.int j u)) Q E s) :
    OpR X f (rI0 fun i j=>.int (g i j)):=by
  intro pins s σ H x y v u Q I rx ry h
  obtain ⟨i,j,rfl,rfl,q⟩:=h
  obtain ⟨t,rfl⟩:=rx
  obtain ⟨t',rfl⟩:=ry
  exact rule i j t t' s _ _ ⟨.int (g i j),H,I.tok _,⟨_,rfl⟩,q⟩
theorem opB0 {f:Value → Value → Sem Value} {g:Int → Int → Bool}
    (rule:∀ (i j:Int) (t u:Tok) (s:Shared) (Q:Value → Shared → Prop) (E:Value → Shared → Prop),Q (.bool (g i j)) s → wpAny (model X.prog X.w) X.A (f (.int i t) (.int j u)) Q E s) :
    OpR X f (rI0 fun i j=>.bl (g i j)):=by
  intro pins s σ H x y v u Q I rx ry h
  obtain ⟨i,j,rfl,rfl,q⟩:=h
  obtain ⟨t,rfl⟩:=rx
  obtain ⟨t',rfl⟩:=ry
  exact rule i j t t' s _ _ ⟨.bl (g i j),H,I,rfl,q⟩
def CDiv (i j:Int):Prop:=0 < j ∧ j < 1073741824
def CPow (i j:Int):Prop:=0 ≤ j ∧ j ≤ 1000000 ∧ i.natAbs < 2 ^ 64
def CMul (i j:Int):Prop:=(-(2 ^ 64) < i ∧ i < 2 ^ 64) ∨ (-(2 ^ 64) < j ∧ j < 2 ^ 64)
theorem CMul.ok {i j:Int} (h:CMul i j):IntMulOk i j:=by
  rcases h with ⟨h1,h2⟩ | ⟨h1,h2⟩
  · exact .of_left (intBits_le_64 h1 h2)
  · exact .of_right (intBits_le_64 h1 h2)
theorem op_add:OpR X (binaryOp .Add) (rI0 fun i j=>.int (i + j)):=opI0 fun _ _ _ _ _ _ _ q=>add_int q
theorem op_sub:OpR X (binaryOp .Sub) (rI0 fun i j=>.int (i - j)):=opI0 fun _ _ _ _ _ _ _ q=>sub_int q
theorem op_mul:OpR X (binaryOp .Mult) (rI CMul fun i j=>.int (i * j)):=opI fun _ _ _ _ _ _ _ hc q=>mul_int q hc.ok
theorem op_fdiv:OpR X (binaryOp .FloorDiv) (rI CDiv fun i j=>.int (i / j)):=opI fun i j _ _ _ _ _ hc q=>by
  have h1:(0:Int) < j:=hc.1
  have h2:j < 1073741824:=hc.2
  exact floordiv_int (by omega) (by rw [Int.fdiv_eq_ediv_of_nonneg i (by omega)]; exact q) (.inl (PyProof.noPylong_small (by omega)))
theorem op_mod:OpR X (binaryOp .Mod) (rI (fun _ j=>0 < j) fun i j=>.int (i % j)):=opI fun i j _ _ _ _ _ hc q=>by
  have h1:(0:Int) < j:=hc
  exact mod_int' (by omega) (by rw [Int.fmod_eq_emod_of_nonneg i (by omega)]; exact q)
theorem op_pow:OpR X (binaryOp .Pow) (rI CPow fun i j=>.int (i ^ j.toNat)):=opI fun _ _ _ _ _ _ _ hc q=>pow_int_small hc.1 hc.2.1 hc.2.2 q
theorem unI {f:Value → Sem Value} {g:Int → Int}
    (rule:∀ (i:Int) (t:Tok) (s:Shared) (Q:Value → Shared → Prop) (E:Value → Shared → Prop),Q (.int (g i) s.toks) { s with toks:=s.toks + 1 } → wpAny (model X.prog X.w) X.A (f (.int i t)) Q E s) :
    UnR X f (rU fun i=>.int (g i)):=by
  intro pins s σ H x v Q I rx h
  obtain ⟨i,rfl,q⟩:=h
  obtain ⟨t,rfl⟩:=rx
  exact rule i t s _ _ ⟨.int (g i),H,I.tok _,⟨_,rfl⟩,q⟩
theorem un_neg:UnR X (unaryOp .USub) (rU fun i=>.int (-i)):=unI fun _ _ _ _ _ q=>neg_int q
end
def scal:V → V → Bool
  | .non,.non=>true | .non,.int _=>true | .int _,.non=>true | .non,.bl _=>true | .bl _,.non=>true | .non,.str _=>true | .str _,.non=>true
  | .int _,.int _=>true | .bl _,.bl _=>true | .str _,.str _=>true | .byt _,.byt _=>true
  | .int _,.str _=>true | .str _,.int _=>true | .bl _,.str _=>true | .str _,.bl _=>true
  | _,_=>false
def rEq:R2:=fun x y H Q=>scal x y = true ∧ Q (.bl (decide (x = y))) H
def rNe:R2:=fun x y H Q=>scal x y = true ∧ Q (.bl (!decide (x = y))) H
theorem dec_int {i j:Int}:decide (V.int i = V.int j) = (i == j):=by
  rw [Bool.eq_iff_iff]
  simp
theorem dec_bl {i j:Bool}:decide (V.bl i = V.bl j) = (i == j):=by
  rw [Bool.eq_iff_iff]
  simp
theorem dec_str {i j:Str}:decide (V.str i = V.str j) = (i == j):=by
  rw [Bool.eq_iff_iff]
  simp
theorem dec_byt {i j:Array UInt8}:decide (V.byt i = V.byt j) = (i.toList == j.toList):=by
  rw [Bool.eq_iff_iff]
  cases i
  cases j
  simp
section
variable {X:Cx} {a b c:Expr} {ta tb tc:TE} {pos:Pos}
theorem fin_bl {pins:List (Addr × Obj)} {σ:St} {H:Hp} {s:Shared} {Q:VK} {k k':Bool} (I:Inv X pins σ H s) (q:Q (.bl k) H) (e:k = k'):EP X pins σ Q (.bool k') s:=by
  subst e
  exact ⟨.bl k,H,I,rfl,q⟩
theorem op_eq:OpR X (compareOp .Eq) rEq:=by
  intro pins s σ H x y v u Q I rx ry h
  obtain ⟨hs,q⟩:=h
  cases x with
  | non =>
    cases rx
    cases y with
    | non=>cases ry; exact PySem.EqNone.eq_none_none (fin_bl I q (by simp))
    | bl j=>cases ry; exact PySem.EqNone.eq_none_bool (fin_bl I q (by simp))
    | int j=>obtain ⟨t',rfl⟩:=ry; exact PySem.EqNone.eq_none_int (fin_bl I q (by simp))
    | str j=>obtain ⟨t',rfl⟩:=ry; exact PySem.EqNone.eq_none_str (fin_bl I q (by simp))
    | _=>exact absurd (show false = true from hs) Bool.false_ne_true
  | bl i =>
    cases rx
    cases y with
    | non=>cases ry; exact PySem.EqNone.eq_bool_none (fin_bl I q (by simp))
    | bl j=>cases ry; exact eq_bool (fin_bl I q dec_bl)
    | str j=>obtain ⟨t',rfl⟩:=ry; exact PySem.EqMixed.eq_bool_str (fin_bl I q (by simp))
    | _=>exact absurd (show false = true from hs) Bool.false_ne_true
  | int i =>
    obtain ⟨t,rfl⟩:=rx
    cases y with
    | non=>cases ry; exact PySem.EqNone.eq_int_none (fin_bl I q (by simp))
    | int j=>obtain ⟨t',rfl⟩:=ry; exact eq_int (fin_bl I q dec_int)
    | str j=>obtain ⟨t',rfl⟩:=ry; exact PySem.EqMixed.eq_int_str (fin_bl I q (by simp))
    | _=>exact absurd (show false = true from hs) Bool.false_ne_true
  | str i =>
    obtain ⟨t,rfl⟩:=rx
    cases y with
    | non=>cases ry; exact PySem.EqNone.eq_str_none (fin_bl I q (by simp))
    | bl j=>cases ry; exact PySem.EqMixed.eq_str_bool (fin_bl I q (by simp))
    | int j=>obtain ⟨t',rfl⟩:=ry; exact PySem.EqMixed.eq_str_int (fin_bl I q (by simp))
    | str j=>obtain ⟨t',rfl⟩:=ry; exact eq_str (fin_bl I q dec_str)
    | _=>exact absurd (show false = true from hs) Bool.false_ne_true
  | byt i =>
    obtain ⟨t,rfl⟩:=rx
    cases y with
    | byt j=>obtain ⟨t',rfl⟩:=ry; exact PySem.W.eq_bytes (fin_bl I q dec_byt)
    | _=>exact absurd (show false = true from hs) Bool.false_ne_true
  | _=>cases y <;> exact absurd (show false = true from hs) Bool.false_ne_true
theorem op_ne:OpR X (compareOp .NotEq) rNe:=by
  intro pins s σ H x y v u Q I rx ry h
  obtain ⟨hs,q⟩:=h
  cases x with
  | non =>
    cases rx
    cases y with
    | non=>cases ry; exact PySem.EqNone.ne_none_none (fin_bl I q (by simp))
    | bl j=>cases ry; exact PySem.EqNone.ne_none_bool (fin_bl I q (by simp))
    | int j=>obtain ⟨t',rfl⟩:=ry; exact PySem.EqNone.ne_none_int (fin_bl I q (by simp))
    | str j=>obtain ⟨t',rfl⟩:=ry; exact PySem.EqNone.ne_none_str (fin_bl I q (by simp))
    | _=>exact absurd (show false = true from hs) Bool.false_ne_true
  | bl i =>
    cases rx
    cases y with
    | non=>cases ry; exact PySem.EqNone.ne_bool_none (fin_bl I q (by simp))
    | bl j=>cases ry; exact ne_bool (fin_bl I q (congrArg not dec_bl))
    | str j=>obtain ⟨t',rfl⟩:=ry; exact PySem.EqMixed.ne_bool_str (fin_bl I q (by simp))
    | _=>exact absurd (show false = true from hs) Bool.false_ne_true
  | int i =>
    obtain ⟨t,rfl⟩:=rx
    cases y with
    | non=>cases ry; exact PySem.EqNone.ne_int_none (fin_bl I q (by simp))
    | int j=>obtain ⟨t',rfl⟩:=ry; exact ne_int (fin_bl I q (congrArg not dec_int))
    | str j=>obtain ⟨t',rfl⟩:=ry; exact PySem.EqMixed.ne_int_str (fin_bl I q (by simp))
    | _=>exact absurd (show false = true from hs) Bool.false_ne_true
  | str i =>
    obtain ⟨t,rfl⟩:=rx
    cases y with
    | non=>cases ry; exact PySem.EqNone.ne_str_none (fin_bl I q (by simp))
    | bl j=>cases ry; exact PySem.EqMixed.ne_str_bool (fin_bl I q (by simp))
    | int j=>obtain ⟨t',rfl⟩:=ry; exact PySem.EqMixed.ne_str_int (fin_bl I q (by simp))
    | str j=>obtain ⟨t',rfl⟩:=ry; exact ne_str (fin_bl I q (congrArg not dec_str))
    | _=>exact absurd (show false = true from hs) Bool.false_ne_true
  | byt i =>
    obtain ⟨t,rfl⟩:=rx
    cases y with
    | byt j=>obtain ⟨t',rfl⟩:=ry; exact PySem.W.ne_bytes (fin_bl I q (congrArg not dec_byt))
    | _=>exact absurd (show false = true from hs) Bool.false_ne_true
  | _=>cases y <;> exact absurd (show false = true from hs) Bool.false_ne_true
theorem op_lt:OpR X (compareOp .Lt) (rI0 fun i j=>.bl (decide (i < j))):=opB0 fun _ _ _ _ _ _ _ q=>lt_int q
theorem op_le:OpR X (compareOp .LtE) (rI0 fun i j=>.bl (decide (i ≤ j))):=opB0 fun _ _ _ _ _ _ _ q=>le_int q
theorem op_gt:OpR X (compareOp .Gt) (rI0 fun i j=>.bl (decide (j < i))):=opB0 fun _ _ _ _ _ _ _ q=>gt_int q
theorem op_ge:OpR X (compareOp .GtE) (rI0 fun i j=>.bl (decide (j ≤ i))):=opB0 fun _ _ _ _ _ _ _ q=>ge_int q
theorem op_in_str:OpR X (compareOp .In) (fun x y H Q=>∃ i j,x = .str i ∧ y = .str j ∧ Q (.bl (!(Builtin.Str.occurrences j i 0 j.length 1).isEmpty)) H):=by
  intro pins s σ H x y v u Q I rx ry h
  obtain ⟨i,j,rfl,rfl,q⟩:=h
  obtain ⟨t,rfl⟩:=rx
  obtain ⟨t',rfl⟩:=ry
  exact in_str (fin_bl I q rfl)
theorem nomark (b:Expr) {op:CmpOp} (h:op ≠ .In:=by decide) (h2:op ≠ .NotIn:=by decide):behindInMarks op b = false:=by
  have e1:(op == CmpOp.In) = false:=by cases op <;> first | rfl | exact absurd rfl h
  have e2:(op == CmpOp.NotIn) = false:=by cases op <;> first | rfl | exact absurd rfl h2
  cases b <;> simp [behindInMarks,e1,e2]
theorem pe_cmpR {op:CmpOp} {r:R2} (ho:OpR X (compareOp op) r) (ha:PE X a ta) (hb:PE X b tb) (hm:behindInMarks op b = false):PE X (.Compare a [op] [b] pos) (tOp r ta tb):=by
  intro pins s σ H Q I h
  exact wpAny_Compare1 (binT ha hb I h fun v u s2 x y H2 I2 rx ry q=>ho pins s2 σ H2 x y v u Q I2 rx ry q) hm
def tTest (t:TE):TT:=fun σ H Q=>t σ H fun x H'=>∃ k,x = .bl k ∧ Q k H'
theorem pt_cmpR {op:CmpOp} {r:R2} (ho:OpR X (compareOp op) r) (ha:PE X a ta) (hb:PE X b tb) (hm:behindInMarks op b = false):PT X (.Compare a [op] [b] pos) (tTest (tOp r ta tb)):=by
  intro pins s σ H Q I h
  refine wpAny_isTrue_Compare1 (thn (ha pins s σ H _ I h) fun v s1 ⟨x,H1,I1,r1,q1⟩=>thn (hb pins s1 σ H1 _ I1 q1) fun u s2 ⟨y,H2,I2,r2,q2⟩ =>
    thn (ho pins s2 σ H2 x y v u _ I2 r1 r2 q2) fun c s3 ⟨z,H3,I3,r3,k,e,q3⟩=>?_) hm
  subst e
  cases r3
  exact wpAny_truthy_bool ⟨H3,I3,q3⟩
def tChain (r r':R2) (ta tb tc:TE):TE:=fun σ H Q=>ta σ H fun x H1=>tb σ H1 fun y H2=>r x y H2 fun z H3=>∃ k,z = .bl k ∧
  (if k = true then tc σ H3 fun w' H4=>r' y w' H4 Q else Q (.bl false) H3)
theorem pt_chain {op op':CmpOp} {r r':R2} (ho:OpR X (compareOp op) r) (ho':OpR X (compareOp op') r') (ha:PE X a ta) (hb:PE X b tb) (hc:PE X c tc)
    (hm:lastMarks [op,op'] [b,c] = false:=by with_unfolding_all rfl):PT X (.Compare a [op,op'] [b,c] pos) (tTest (tChain r r' ta tb tc)):=by
  intro pins s σ H Q I h
  refine isTrue_chain (thn (ha pins s σ H _ I h) fun v s1 ⟨x,H1,I1,r1,q1⟩=>test_link (thn (hb pins s1 σ H1 _ I1 q1) fun u s2 ⟨y,H2,I2,r2,q2⟩ =>
    thn (ho pins s2 σ H2 x y v u _ I2 r1 r2 q2) fun d s3 ⟨z,H3,I3,r3,k,e,q3⟩=>?_)) hm
  subst e
  cases r3
  refine wpAny_truthy_bool ?_
  cases k with
  | false =>
    obtain ⟨k',e',q'⟩:=q3
    cases e'
    exact ite_ff ⟨H3,I3,q'⟩
  | true =>
    refine ite_tt (test_last (thn (hc pins s3 σ H3 _ I3 q3) fun w' s4 ⟨z',H4,I4,r4,q4⟩=>thn (ho' pins s4 σ H4 y z' u w' _ I4 r2 r4 q4) fun d' s5 ⟨z2,H5,I5,r5,k2,e2,q5⟩=>?_))
    subst e2
    cases r5
    exact wpAny_truthy_bool ⟨H5,I5,q5⟩
def TruV (K:PySem.W.Frag) (x:V) (H:Hp) (k:Bool):Prop :=
  match x with
  | .non=>k = false
  | .bl b=>k = b
  | .int i=>k = (i != 0)
  | .str y=>y.length ≤ sizeLine ∧ k = ((y.length:Int) != 0)
  | .byt y=>y.size ≤ sizeLine ∧ k = ((y.size:Int) != 0)
  | .ref p=>(∃ xs,SqL K H p xs ∧ k = !xs.isEmpty) ∨ (∃ xs,SqT K H p xs ∧ k = !xs.isEmpty) ∨ ∃ kvs,H p = some (.dK kvs) ∧ k = !kvs.isEmpty
  | _=>False
theorem isEmpty_kv {κ:Type} {kvs:List (κ × V)} {vs:List (κ × Value)} (r:KV kvs vs):(!vs.isEmpty) = !kvs.isEmpty:=by
  cases r <;> rfl
theorem isEmpty_of {xs:List V} {its:List Value} (r:Vals xs its):(!its.toArray.isEmpty) = !xs.isEmpty:=by
  cases r <;> simp
theorem line63:(sizeLine:Nat) < 2 ^ 63:=by rw [sizeLine_eq]; decide
theorem tru_ok:TruR X (fun x H Q=>∃ k,TruV X.K x H k ∧ Q k H):=by
  intro pins s σ H x v Q I rx h
  obtain ⟨k,e,q⟩:=h
  have hl:=line63
  have hs:sizeLine = 16777216:=sizeLine_eq
  cases x with
  | non =>
    cases rx
    have e':k = false:=e
    subst e'
    exact truthy_none ⟨H,I,q⟩
  | bl b =>
    cases rx
    have e':k = b:=e
    subst e'
    exact wpAny_truthy_bool ⟨H,I,q⟩
  | int i =>
    obtain ⟨t,rfl⟩:=rx
    have e':k = (i != 0):=e
    subst e'
    exact PySem.P.truthy_int ⟨H,I,q⟩
  | str y =>
    obtain ⟨t,rfl⟩:=rx
    obtain ⟨hy,e'⟩:y.length ≤ sizeLine ∧ k = ((y.length:Int) != 0):=e
    subst e'
    exact PySem.P.truthy_str (by omega) ⟨H,I.tok _,q⟩
  | byt y =>
    obtain ⟨t,rfl⟩:=rx
    obtain ⟨hy,e'⟩:y.size ≤ sizeLine ∧ k = ((y.size:Int) != 0):=e
    subst e'
    exact PySem.W.truthy_bytes (by omega) ⟨H,I.tok _,q⟩
  | ref p =>
    cases rx
    have e':(∃ xs,SqL X.K H p xs ∧ k = !xs.isEmpty) ∨ (∃ xs,SqT X.K H p xs ∧ k = !xs.isEmpty) ∨ ∃ kvs,H p = some (.dK kvs) ∧ k = !kvs.isEmpty:=e
    rcases e' with ⟨xs,hx,e'⟩ | ⟨xs,hx,e'⟩ | ⟨kvs,hx,e'⟩
    · subst e'
      obtain ⟨its,r,pl,hz⟩:=I.list hx
      have hlen:=r.length
      exact wpAny_truthy_list pl.isList (by simp only [List.size_toArray]; omega) ⟨H,I.tok _,by rw [isEmpty_of r]; exact q⟩
    · subst e'
      obtain ⟨its,r,pl,hz⟩:=I.tuple hx
      have hlen:=r.length
      exact truthy_tuple pl (by simp only [List.size_toArray]; omega) ⟨H,I.tok _,by rw [isEmpty_of r]; exact q⟩
    · subst e'
      obtain ⟨hz,hS,vs,r,m⟩:kvs.length ≤ sizeLine ∧ (p == sysModules) = false ∧ ∃ vs,KV kvs vs ∧ s.heap.DictOf (mixKind X.prog X.w) p vs:=I.hok p _ hx
      have hlen:kvs.length = vs.length:=Paired.length r
      exact wpAny_truthy_dict hS m (by omega) ⟨H,I.tok _,by rw [isEmpty_kv r]; exact q⟩
  | _=>exact (show False from e).elim
theorem pt_truth (ha:PE X a ta) (he:∀ whole,isTrue a X.env whole = (do let v ← whole; standAt a.pos; holding [v] (truthy v))) :
    PT X a (fun σ H Q=>ta σ H fun x H'=>∃ k,TruV X.K x H' k ∧ Q k H'):=by
  intro pins s σ H Q I h
  exact isTrue_plain (thn (ha pins s σ H _ I h) fun v s1 ⟨x,H1,I1,r1,q1⟩=>tru_ok pins s1 σ H1 x v Q I1 r1 q1) (he _)
theorem op_add_str:OpR X (binaryOp .Add) (fun x y H Q=>∃ i j,x = .str i ∧ y = .str j ∧ i.length + j.length ≤ sizeLine ∧ Q (.str (i ++ j)) H):=by
  intro pins s σ H x y v u Q I rx ry h
  obtain ⟨i,j,rfl,rfl,hz,q⟩:=h
  obtain ⟨t,rfl⟩:=rx
  obtain ⟨t',rfl⟩:=ry
  exact add_str (fun t' tk=>⟨.str (i ++ j),H,I.tok _,⟨_,rfl⟩,q⟩) hz
theorem vals1 {x:V} {us:List Value} (r:Vals [x] us):∃ u,us = [u] ∧ RelV x u:=by
  cases r with
  | cons r1 r2=>cases r2; exact ⟨_,rfl,r1⟩
theorem vals2 {x y:V} {us:List Value} (r:Vals [x,y] us):∃ u w',us = [u,w'] ∧ RelV x u ∧ RelV y w':=by
  cases r with
  | cons r1 r2 =>
    cases r2 with
    | cons r3 r4=>cases r4; exact ⟨_,_,rfl,r1,r3⟩
theorem call_min2 (hc:X.calm = true):CallR X (.builtin "min") (fun xs H Q=>∃ i j,xs = [.int i,.int j] ∧ Q (.int (if j < i then j else i)) H):=by
  intro pins s σ H xs us Q I r h
  obtain ⟨i,j,rfl,q⟩:=h
  obtain ⟨u,w',rfl,⟨t,rfl⟩,⟨t',rfl⟩⟩:=vals2 r
  refine min_two_ints (I.ok.hd hc) fun h' tk k=>⟨_,H,I.kept k,?_,q⟩
  by_cases hj:j < i
  · rw [if_pos hj,if_pos hj]; exact ⟨_,rfl⟩
  · rw [if_neg hj,if_neg hj]; exact ⟨_,rfl⟩
theorem call_int1:CallR X (.type "int") (fun xs H Q=>(∃ i,xs = [.int i] ∧ Q (.int i) H) ∨ ∃ k,xs = [.bl k] ∧ Q (.int (if k then 1 else 0)) H):=by
  intro pins s σ H xs us Q I r h
  rcases h with ⟨i,rfl,q⟩ | ⟨k,rfl,q⟩
  · obtain ⟨u,rfl,t,rfl⟩:=vals1 r
    exact call_int_int ⟨.int i,H,I,⟨_,rfl⟩,q⟩
  · obtain ⟨u,rfl,r1⟩:=vals1 r
    cases r1
    exact call_int_bool ⟨.int (if k then 1 else 0),H,I.tok _,⟨_,rfl⟩,q⟩
end
end L2
namespace L2
open PySem PySem.Spec PyProof.Rows
structure ObjM (h:Heap) (x dx C:Addr) (mA:Str → Option Value):Prop where
  obj:h.get? x = some (PySem.W.instObj C dx)
  ns:h.Ns1 dx mA
  ne:dx ≠ x
theorem lookIn_ns {h:Heap} {dx:Addr} {mA:Str → Option Value} (n:h.Ns1 dx mA):∃ od,h.get? dx = some od ∧ ∀ name,PySem.W.lookIn name od = some (mA name):=by
  obtain ⟨o,es,ep,ho,hd,hk,_,hm⟩:=n
  refine ⟨o,ho,fun name=>?_⟩
  have e:=hm name
  unfold nsFind findBy at e
  rw [← Array.find?_toList] at e
  unfold PySem.W.lookIn
  rw [hd]
  dsimp only
  split
  · rename_i y q
    rw [q] at e
    exact congrArg some e
  · rename_i q
    rw [q] at e
    have a:es.toList.any (·.refKey) = false:=by
      rw [List.any_eq_false]
      intro y hy
      obtain ⟨z,t,hkey⟩:=hk y (Array.mem_toList_iff.mp hy)
      simp [DictEntry.refKey,hkey]
    have a':¬ es.toList.any (·.refKey) = true:=by rw [a]; exact Bool.false_ne_true
    rw [if_neg a']
    exact congrArg some e
theorem ObjM.look {h:Heap} {x dx C:Addr} {mA:Str → Option Value} (I:ObjM h x dx C mA):∃ od,PySem.W.InstAt h x (PySem.W.instObj C dx) C (some od) ∧ ∀ name,PySem.W.lookIn name od = some (mA name) :=
  let ⟨od,ho,hl⟩:=lookIn_ns I.ns
  ⟨od,⟨I.obj,rfl,rfl,ho⟩,hl⟩
section
variable {prog:Program} {w:World} {A:Around} {E:Value → Shared → Prop} {s:Shared} {K:PySem.W.Frag} {x dx C f:Addr} {mA:Str → Option Value} {name:Str} {v:Value}
theorem get_map {expr:Bool} {Q:Value → Shared → Prop} (X:K.In s.heap) (I:ObjM s.heap x dx C mA) (hg:PySem.W.plainGet K C name = true) (hh:PySem.W.hasDictIn K C = true)
    (ha:PySem.W.findIn K (.ref C) name = some none) (hv:mA name = some v) (hv':PySem.W.handedIn v = true) (h:Q v { s with toks:=s.toks + 1 }) :
    wpAny (model prog w) A (getAttr (.ref x) name expr) Q E s:=by
  obtain ⟨od,J,hl⟩:=I.look
  exact PySem.W.get_value X J (PySem.W.plainGet_of hg).1 (PySem.W.findObj_own hh ha rfl (by rw [hl,hv])) hv' h
theorem get_meth {pl:Sem Bool} {Q:Value × List Value → Shared → Prop} (X:K.In s.heap) (I:ObjM s.heap x dx C mA) (hg:PySem.W.plainGet K C name = true)
    (hf:PySem.W.findIn K (.ref C) name = some (some (.ref f))) (ht:PySem.W.isFn K (.ref f) = true) (hv:mA name = none) (h:Q (.ref f,[.ref x]) s) :
    wpAny (model prog w) A (getMethod (.ref x) name pl) Q E s:=by
  obtain ⟨od,J,hl⟩:=I.look
  exact PySem.W.method_fn X J (PySem.W.plainGet_of hg).1 (PySem.W.plainGet_of hg).2 hf (beq_iff_eq.mp ht) (by show (PySem.W.lookIn name od).map (·.isSome) = some false; rw [hl,hv]; rfl) h
theorem set_map {ns:List Str} {Q:Unit → Shared → Prop} (X:K.In s.heap) (I:ObjM s.heap x dx C mA)
    (hs:PySem.W.findIn K (.ref C) "__setattr__" = some (some (.builtin "object.__setattr__"))) (hp:PySem.W.plainOver K C = true) (ht:PySem.W.takerIn K C name = some none) (hh:PySem.W.hasDictIn K C = true)
    (hw:PySem.Within mA ns) (hsz:ns.length ≤ sizeLine)
    (h:∀ h',ObjM h' x dx C (fun y=>if y = name then some v else mA y) → Heap.SameBut dx s.heap h' → Q () { s with heap:=h',toks:=s.toks + 2 }) :
    wpAny (model prog w) A (setAttr (.ref x) name v) Q E s:=by
  obtain ⟨od,J,hl⟩:=I.look
  refine PySem.W.set_plain X J hs (PySem.W.osa_open (s:={ s with toks:=s.toks + 1 }) (r:=none) X J hp ht fun b=>?_)
  obtain ⟨cd,hc,hd'⟩:=PySem.W.any_some hh
  have hx:s.heap.get? x = some ⟨.ref C,some dx,.plain,#[]⟩:=I.obj
  refine wpAny_bind (wpAny_pure (wpAny_bind (wpAny_bind (wpAny_loadPart hx (wpAny_bind (PySem.W.Looks.here (s:={ s with toks:=s.toks + 1 }) (PySem.W.looks_clsIn X hc) ?_))))))
  rw [hd']
  refine wpAny_pure (a:=some dx) (wpAny_bind (wpAny_pure (wpAny_bind ?_)))
  refine wpAny_nsSet1 (s:={ s with toks:=s.toks + 1 }) I.ns fun h' hn2 hs2=>?_
  obtain ⟨oD,esD,epD,hoD,hdD,hcD⟩:=hn2.count (PySem.Within.cons name v hw)
  refine wpAny_bind (wpAny_lookBehind hoD (by rw [hdD]; exact pastItsLine_dict (Nat.le_trans hcD (by rw [List.length_cons]; omega))) ?_)
  exact wpAny_pure (h _ ⟨(hs2.2 _ (Ne.symm I.ne)).trans I.obj,hn2,I.ne⟩ hs2)
theorem make_map {R:Result → Shared → Prop} {vs:List Value} {kw:List (Str × Value)} (X:K.In s.heap) (hm:PySem.W.makesIn K C = true)
    (hi:PySem.W.findIn K (.ref C) "__init__" = some (some (.ref f))) (hf:PySem.W.typeIn K (.ref f) = some (.type "function"))
    (h:codeAny (model prog w) (A.under (.builtin "type.__call__" ⟨.ref C :: vs,kw⟩)) (.call (.ref f) ⟨.ref (s.heap.objs.size + 1) :: vs,kw⟩) (PySem.W.InitBack (s.heap.objs.size + 1) R)
      { s with heap:=(s.heap.push PySem.W.emptyDict).push (PySem.W.instObj C s.heap.objs.size) }) :
    codeAny (model prog w) A (.call (.ref C) ⟨vs,kw⟩) R s:=by
  obtain ⟨hh,g,d,t,os⟩:=s
  exact PySem.W.make_core (PySem.W.makes_of X hm) (PySem.W.looks_findIn X hi) (fun self=>PySem.W.bind_fn X self hf) (.inl rfl) h
end
def putF (f:Str) (v:V):List (Str × V) → List (Str × V)
  | []=>[(f,v)]
  | (g,x) :: r=>if g = f then (g,v) :: r else (g,x) :: putF f v r
theorem lookup_putF (f g:Str) (v:V):∀ fs:List (Str × V),(putF f v fs).lookup g = if g = f then some v else fs.lookup g
  | []=>by
    show List.lookup g [(f,v)] = _
    by_cases h:g = f
    · have hb:(g == f) = true:=beq_iff_eq.mpr h
      simp only [List.lookup,hb,if_pos h]
    · have hb:(g == f) = false:=beq_eq_false_iff_ne.mpr h
      simp only [List.lookup,hb,if_neg h]
  | (k,x) :: r=>by
    have ih:=lookup_putF f g v r
    rw [show putF f v ((k,x) :: r) = (if k = f then (k,v) :: r else (k,x) :: putF f v r) from rfl]
    by_cases hk:k = f
    · rw [if_pos hk]
      by_cases h:g = k
      · have hb:(g == k) = true:=beq_iff_eq.mpr h
        simp only [List.lookup,hb,if_pos (h.trans hk)]
      · have hb:(g == k) = false:=beq_eq_false_iff_ne.mpr h
        simp only [List.lookup,hb,if_neg (fun e:g = f=>h (e.trans hk.symm))]
    · rw [if_neg hk]
      by_cases h:g = k
      · have hb:(g == k) = true:=beq_iff_eq.mpr h
        simp only [List.lookup,hb,if_neg (fun e:g = f=>hk (h.symm.trans e))]
      · have hb:(g == k) = false:=beq_eq_false_iff_ne.mpr h
        simp only [List.lookup,hb]
        exact ih
theorem keys_putF (f:Str) (v:V):∀ fs:List (Str × V),f ∈ (putF f v fs).map (·.1) ∧ ∀ g,g ∈ fs.map (·.1) → g ∈ (putF f v fs).map (·.1)
  | []=>⟨by simp [putF],fun g h=>by simp at h⟩
  | (k,x) :: r=>by
    obtain ⟨i1,i2⟩:=keys_putF f v r
    rw [show putF f v ((k,x) :: r) = (if k = f then (k,v) :: r else (k,x) :: putF f v r) from rfl]
    by_cases hk:k = f
    · rw [if_pos hk]
      subst hk
      exact ⟨by simp,fun g h=>by simpa using h⟩
    · rw [if_neg hk]
      refine ⟨?_,fun g h=>?_⟩
      · rw [List.map_cons]
        exact List.mem_cons_of_mem _ i1
      · rw [List.map_cons] at h ⊢
        rcases List.mem_cons.mp h with e | e
        · exact List.mem_cons.mpr (.inl e)
        · exact List.mem_cons_of_mem _ (i2 g e)
theorem length_putF (f:Str) (v:V):∀ fs:List (Str × V),(putF f v fs).length ≤ fs.length + 1
  | []=>by simp [putF]
  | (k,x) :: r=>by
    have ih:=length_putF f v r
    rw [show putF f v ((k,x) :: r) = (if k = f then (k,v) :: r else (k,x) :: putF f v r) from rfl]
    by_cases hk:k = f
    · rw [if_pos hk,List.length_cons,List.length_cons]; omega
    · rw [if_neg hk,List.length_cons,List.length_cons]; omega
theorem RelO.some_of {v:V} {o:Option Value} (r:RelO (some v) o):∃ u,o = some u ∧ RelV v u:=by
  cases o with
  | none=>exact (show False from r).elim
  | some u=>exact ⟨u,rfl,r⟩
theorem RelO.none_of {o:Option Value} (r:RelO none o):o = none:=by
  cases o with
  | none=>rfl
  | some u=>exact (show False from r).elim
theorem handed_of {v:V} {u:Value} (r:RelV v u):PySem.W.handedIn u = true:=by
  cases v with
  | non=>cases (show u = Value.none from r); rfl
  | bl b=>cases (show u = Value.bool b from r); rfl
  | int i=>obtain ⟨t,e⟩:=(show ∃ t,u = Value.int i t from r); cases e; rfl
  | str x=>obtain ⟨t,e⟩:=(show ∃ t,u = Value.str x t from r); cases e; rfl
  | byt b=>obtain ⟨t,e⟩:=(show ∃ t,u = Value.bytes b t from r); cases e; rfl
  | flt b=>obtain ⟨t,e⟩:=(show ∃ t,u = Value.float b t from r); cases e; rfl
  | ref a=>cases (show u = Value.ref a from r); rfl
  | ty n=>cases (show u = Value.type n from r); rfl
section
variable {P:Program} {w:World} {H H':Hp} {h h':Heap} {a C dx:Addr} {fs fs':List (Str × V)}
theorem ins_get (hok:HOk P w H h) (e:H a = some (.ins C dx fs)):∃ mA,ObjM h a dx C mA ∧ (∀ f,RelO (fs.lookup f) (mA f)) ∧ PySem.Within mA (fs.map (·.1)) ∧ fs.length ≤ 1000 ∧ H dx = some (.own a):=by
  obtain ⟨d,z,ne,ob,mA,n,r,q⟩:=(show ObjOk P w H h a (.ins C dx fs) from hok a _ e)
  exact ⟨mA,⟨ob,n,ne⟩,r,q,z,d⟩
end
structure Cls (K:PySem.W.Frag) (C:Addr):Prop where
  pg:PySem.W.plainGet K C Str.empty = true
  hd:PySem.W.hasDictIn K C = true
  po:PySem.W.plainOver K C = true
  sa:PySem.W.findIn K (.ref C) "__setattr__" = some (some (.builtin "object.__setattr__"))
theorem Cls.get {K:PySem.W.Frag} {C:Addr} (c:Cls K C) (f:Str):PySem.W.plainGet K C f = true:=c.pg
def NoAttr (K:PySem.W.Frag) (C:Addr) (f:Str):Prop:=PySem.W.findIn K (.ref C) f = some none
theorem NoAttr.taker {K:PySem.W.Frag} {C:Addr} {f:Str} (n:NoAttr K C f):PySem.W.takerIn K C f = some none:=by
  unfold PySem.W.takerIn
  rw [show PySem.W.findIn K (.ref C) f = some none from n]
  rfl
structure Con (K:PySem.W.Frag) (C:Addr) (f:Str) (v:V) (u:Value):Prop where
  at_:PySem.W.findIn K (.ref C) f = some (some u)
  rel:RelV v u
  get:PySem.W.specialIn K u "__get__" = some none
  cp:PySem.W.copiedNames.contains f = false
structure Meth (K:PySem.W.Frag) (C:Addr) (m:Str) (f:Addr):Prop where
  at_:PySem.W.findIn K (.ref C) m = some (some (.ref f))
  fn:PySem.W.isFn K (.ref f) = true
  kp:PySem.W.keepIn K (.ref f) = true
section
variable {X:Cx} {pins:List (Addr × Obj)} {σ:St} {H:Hp} {s:Shared} {a C dx:Addr} {fs:List (Str × V)} {f:Str} {v:V} {A:Around} {E:Value → Shared → Prop}
theorem getattr_ok {b:Bool} {Q:Value → Shared → Prop} (I:Inv X pins σ H s) (e:H a = some (.ins C dx fs)) (c:Cls X.K C) (n:NoAttr X.K C f) (l:fs.lookup f = some v)
    (h:∀ u s',Inv X pins σ H s' → RelV v u → Q u s'):wpAny (model X.prog X.w) A (getAttr (.ref a) f b) Q E s:=by
  obtain ⟨mA,O,r,_,_,_⟩:=ins_get I.hok e
  obtain ⟨u,hu,ru⟩:=RelO.some_of (v:=v) (o:=mA f) (by rw [← l]; exact r f)
  exact get_map I.kIn O (c.get f) c.hd n hu (handed_of ru) (h u _ (I.tok _) ru)
theorem getmeth_ok {m:Str} {g:Addr} {pl:Sem Bool} {Q:Value × List Value → Shared → Prop} (I:Inv X pins σ H s) (e:H a = some (.ins C dx fs)) (c:Cls X.K C) (k:Meth X.K C m g) (l:fs.lookup m = none)
    (h:Q (.ref g,[.ref a]) s):wpAny (model X.prog X.w) A (getMethod (.ref a) m pl) Q E s:=by
  obtain ⟨mA,O,r,_,_,_⟩:=ins_get I.hok e
  have hn:mA m = none:=RelO.none_of (by rw [← l]; exact r m)
  exact get_meth I.kIn O (c.get m) k.at_ k.fn hn h
theorem setattr_ok {y:V} {u:Value} {Q:Unit → Shared → Prop} (I:Inv X pins σ H s) (e:H a = some (.ins C dx fs)) (c:Cls X.K C) (n:NoAttr X.K C f) (hl:fs.length < 1000) (ry:RelV y u)
    (h:∀ s',Inv X pins σ (upd H a (.ins C dx (putF f y fs))) s' → Q () s'):wpAny (model X.prog X.w) A (setAttr (.ref a) f u) Q E s:=by
  obtain ⟨mA,O,r,wi,_,ho⟩:=ins_get I.hok e
  have hz:(fs.map (·.1)).length ≤ sizeLine:=by rw [List.length_map,sizeLine_eq]; omega
  refine set_map I.kIn O c.sa c.po n.taker c.hd wi hz fun h' O' sb=>h _ ?_
  have hd:∃ o,h'.get? dx = some o:=let ⟨o,_,_,e',_⟩:=O'.ns; ⟨o,e'⟩
  refine I.write (x:=a) (e:=dx) (by rw [e]; exact True.intro) (.inr ho) (fun b q hb z=>(sb.2 b hb).trans z) hd ?_
  refine ⟨by rw [upd_ne O.ne]; exact ho,?_,O.ne,O'.obj,_,O'.ns,fun g=>?_,fun g hg=>?_⟩
  · have:=length_putF f y fs; omega
  · show RelO ((putF f y fs).lookup g) (if g = f then some u else mA g)
    rw [lookup_putF]
    by_cases q:g = f
    · rw [if_pos q,if_pos q]; exact ry
    · rw [if_neg q,if_neg q]; exact r g
  · by_cases q:g = f
    · rw [q]; exact (keys_putF f y fs).1
    · refine (keys_putF f y fs).2 g (wi g fun z=>hg ?_)
      show (if g = f then some u else mA g) = none
      rw [if_neg q]; exact z
theorem Inv.made (I:Inv X pins σ H s):Inv X pins σ (upd (upd H s.heap.objs.size (.own (s.heap.objs.size + 1))) (s.heap.objs.size + 1) (.ins C s.heap.objs.size []))
    { s with heap:=(s.heap.push PySem.W.emptyDict).push (PySem.W.instObj C s.heap.objs.size) }:=by
  have e1:(s.heap.push PySem.W.emptyDict).get? s.heap.objs.size = some PySem.W.emptyDict:=Heap.get?_push_size s.heap rfl
  have e2:((s.heap.push PySem.W.emptyDict).push (PySem.W.instObj C s.heap.objs.size)).get? (s.heap.objs.size + 1) = some (PySem.W.instObj C s.heap.objs.size):=by
    have:=Heap.get?_push_size (s.heap.push PySem.W.emptyDict) (o:=PySem.W.instObj C s.heap.objs.size) rfl
    rwa [Heap.size_push] at this
  have e3:(s.heap.push PySem.W.emptyDict).Ns s.heap.objs.size (fun _=>none):=⟨PySem.W.emptyDict,#[],_,e1,rfl,(fun e he=>absurd he (by simp)),fun _=>rfl⟩
  have I1:=I.laid (a:=s.heap.objs.size) (o:=.own (s.heap.objs.size + 1)) (h':=s.heap.push PySem.W.emptyDict) (t':=s.toks) (fun b u q=>Heap.get?_push_of_some _ q) (Nat.le_refl _) ⟨_,e1⟩
  refine I1.laid (a:=s.heap.objs.size + 1) (o:=.ins C s.heap.objs.size []) (t':=s.toks) (fun b u q=>Heap.get?_push_of_some _ q) (Nat.le_of_eq (Heap.size_push _ _)) ?_
  have ne:s.heap.objs.size ≠ s.heap.objs.size + 1:=Nat.ne_of_lt (Nat.lt_succ_self _)
  refine ⟨by rw [upd_ne ne,upd_same],Nat.zero_le _,ne,e2,fun _=>none,(Heap.Ns1.of_empty e3).at fun o q=>Heap.get?_push_of_some _ q,fun _=>True.intro,fun y hy=>absurd rfl hy⟩
theorem attr_of {prog:Program} {w:World} {env:Env} {e:Expr} {f:Str} {pos:Pos} {s:Shared} {Q:Value → Shared → Prop} (hb:attributeBase e f env (eval e env) = eval e env)
    (h:wpAny (model prog w) A (eval e env) (fun o s₁=>wpAny (model prog w) A (getAttr o f true) Q E s₁) E s):wpAny (model prog w) A (eval (.Attribute e f pos) env) Q E s :=
  Attribute_any_ h (by rw [arm_eval_Attribute,hb])
end
def tFld (K:PySem.W.Frag) (ta:TE) (f:Str):TE:=fun σ H Q=>ta σ H fun x H1=>∃ a C dx fs v,x = .ref a ∧ H1 a = some (.ins C dx fs) ∧ Cls K C ∧ NoAttr K C f ∧ fs.lookup f = some v ∧ Q v H1
def sFld (K:PySem.W.Frag) (ta tv:TE) (f:Str):TS:=fun D σ H=>tv σ H fun y H1=>ta σ H1 fun x H2=>∃ a C dx fs,x = .ref a ∧ H2 a = some (.ins C dx fs) ∧ Cls K C ∧ NoAttr K C f ∧ fs.length < 1000 ∧
  D.nx σ (upd H2 a (.ins C dx (putF f y fs)))
section
variable {X:Cx} {o e value:Expr} {f:Str} {pos pos' tpos:Pos} {ta tv:TE}
theorem pe_fld (he:PE X e ta) (hb:attributeBase e f X.env (eval e X.env) = eval e X.env):PE X (.Attribute e f pos) (tFld X.K ta f):=by
  intro pins s σ H Q I h
  refine attr_of hb (thn (he pins s σ H _ I h) fun u s1 ⟨x,H1,I1,rx,a,C,dx,fs,v,ex,ea,c,n,l,q⟩=>?_)
  subst ex
  obtain rfl:u = Value.ref a:=rx
  exact getattr_ok I1 ea c n l fun u' s2 I2 ru=>⟨v,H1,I2,ru,q⟩
theorem ps_fld (ha:PE X o ta) (hv:PE X value tv) (hs:swapsWith value (some (.Attribute o f pos')) pos.line X.env = pure false):PS X (.Assign [.Attribute o f pos'] value pos) (sFld X.K ta tv f):=by
  intro pins s σ H D I h
  refine plainObj_wpAny_Assign_Attribute (thn (hv pins s σ H _ I h) fun u s1 ⟨y,H1,I1,ry,q⟩=>thn (ha pins s1 σ H1 _ I1 q) fun ov s2 ⟨x,H2,I2,rx,a,C,dx,fs,ex,ea,c,n,l,q2⟩=>?_) hs
  subst ex
  obtain rfl:ov = Value.ref a:=rx
  exact setattr_ok I2 ea c n l ry fun s3 I3=>⟨σ,_,I3,q2⟩
end
section
variable {X:Cx} {pins:List (Addr × Obj)} {σ:St} {H:Hp} {s:Shared} {A:Around} {E:Value → Shared → Prop} {Q:Value → Shared → Prop} {c:Value} {b:Bool}
inductive TyOf (K:PySem.W.Frag) (H:Hp):V → Value → Prop where
  | non:TyOf K H .non (.type "NoneType")
  | bl (x:Bool):TyOf K H (.bl x) (.type "bool")
  | int (i:Int):TyOf K H (.int i) (.type "int")
  | str (x:Str):TyOf K H (.str x) (.type "str")
  | flt (x:UInt64):TyOf K H (.flt x) (.type "float")
  | lst {a:Addr} {xs:List V} (e:H a = some (.lst xs)):TyOf K H (.ref a) (.type "list")
  | frz {a:Addr} {o:Obj} {xs:List V} (e:H a = some (.frz o (.lst xs))):TyOf K H (.ref a) (.type "list")
  | tup {a:Addr} {xs:List V} (e:H a = some (.tup xs)):TyOf K H (.ref a) (.type "tuple")
  | dK {a:Addr} {kvs:List (Key × V)} (e:H a = some (.dK kvs)):TyOf K H (.ref a) (.type "dict")
  | dT {a:Addr} {kvs:List (List Key × V)} (e:H a = some (.dT kvs)):TyOf K H (.ref a) (.type "dict")
  | ins {a C dx:Addr} {fs:List (Str × V)} (e:H a = some (.ins C dx fs)) (cl:Cls K C) (ha:PySem.W.findIn K (.ref C) "__class__" = some (some (.builtin "object.__class__")))
      (hn:PySem.W.specialIn K (.builtin "object.__class__") "__get__" = some (some (.builtin "getset_descriptor.__get__"))) (htk:PySem.W.takesIn K (.builtin "object.__class__") = some true)
      (hm:PySem.W.mroIn K C (.type "object") = some true):TyOf K H (.ref a) (.ref C)
theorem isinst_ok {x:V} {u t:Value} (I:Inv X pins σ H s) (rx:RelV x u) (ty:TyOf X.K H x t) (e:PySem.W.kitOne X.K t c = some b) (h:∀ tk,Q (.bool b) { s with toks:=tk }) :
    wpAny (model X.prog X.w) A (call (.builtin "isinstance") [u,c]) Q E s:=by
  cases ty with
  | non=>cases (show u = Value.none from rx); exact PySem.W.kia_one PySem.W.kitx_none I.kIn True.intro e (fun z=>nomatch z) h
  | bl y=>cases (show u = Value.bool y from rx); exact PySem.W.kia_one PySem.W.kitx_bool I.kIn True.intro e (fun z=>nomatch z) h
  | int i=>obtain ⟨t,q⟩:=(show ∃ t,u = Value.int i t from rx); cases q; exact PySem.W.kia_one PySem.W.kitx_int I.kIn True.intro e (fun z=>nomatch z) h
  | str y=>obtain ⟨t,q⟩:=(show ∃ t,u = Value.str y t from rx); cases q; exact PySem.W.kia_one PySem.W.kitx_str I.kIn True.intro e (fun z=>nomatch z) h
  | flt y=>obtain ⟨t,q⟩:=(show ∃ t,u = Value.float y t from rx); cases q; exact PySem.W.kia_one PySem.W.kitx_float I.kIn True.intro e (fun z=>nomatch z) h
  | @lst a xs ea =>
    cases (show u = Value.ref a from rx)
    obtain ⟨_,_,n,_,h1⟩:=(show ObjOk X.prog X.w H s.heap a (.lst xs) from I.hok a _ ea)
    exact PySem.W.kia_one PySem.W.kitx_list I.kIn ⟨_,h1,rfl⟩ e (fun z=>nomatch z) h
  | @frz a ob xs ea =>
    cases (show u = Value.ref a from rx)
    obtain ⟨_,_,_,n,_,h1⟩:=(show ObjOk X.prog X.w H s.heap a (.frz ob (.lst xs)) from I.hok a _ ea)
    exact PySem.W.kia_one PySem.W.kitx_list I.kIn ⟨_,h1,rfl⟩ e (fun z=>nomatch z) h
  | @tup a xs ea =>
    cases (show u = Value.ref a from rx)
    obtain ⟨_,_,_,p⟩:=(show ObjOk X.prog X.w H s.heap a (.tup xs) from I.hok a _ ea)
    obtain ⟨o,h1,h2,_⟩:=p
    exact PySem.W.kia_one PySem.W.kitx_tuple I.kIn ⟨o,h1,h2⟩ e (fun z=>nomatch z) h
  | @dK a kvs ea =>
    cases (show u = Value.ref a from rx)
    obtain ⟨_,_,vs,_,p⟩:=(show ObjOk X.prog X.w H s.heap a (.dK kvs) from I.hok a _ ea)
    obtain ⟨o,es,ep,h1,h2,_⟩:=p
    exact PySem.W.kia_one PySem.W.kitx_dict I.kIn ⟨o,h1,h2.1⟩ e (fun z=>nomatch z) h
  | @dT a kvs ea =>
    cases (show u = Value.ref a from rx)
    obtain ⟨_,_,xs,_,o,es,ep,h1,h2,_⟩:=(show ObjOk X.prog X.w H s.heap a (.dT kvs) from I.hok a _ ea)
    exact PySem.W.kia_one PySem.W.kitx_dict I.kIn ⟨o,h1,h2.1⟩ e (fun z=>nomatch z) h
  | @ins a C dx fs ea cl ha hn htk hm =>
    cases (show u = Value.ref a from rx)
    obtain ⟨mA,O,_⟩:=ins_get I.hok ea
    obtain ⟨od,J,_⟩:=O.look
    exact PySem.W.kia_one (PySem.W.kitx_own (cl.get _) cl.hd ha hn htk hm) I.kIn J e (fun z=>nomatch z) h
end
end L2
namespace L2
open PySem PySem.Spec PyProof.Rows
structure Room (k:Nat) (A:Around):Prop where
  hd:A.handled = none
  dp:A.depth + 3 * k + 5 < recursionLimit
  un:A.units + 16 * k + 200 < cLine
theorem Room.mono {j k:Nat} {A:Around} (r:Room k A) (h:j ≤ k):Room j A:=⟨r.hd,by have:=r.dp; omega,by have:=r.un; omega⟩
theorem Room.deeper {k:Nat} {A:Around} (r:Room (k + 1) A) (env:Env):Room k (A.deeper env) :=
  ⟨r.hd,by have:=r.dp; show A.depth + 1 + 3 * k + 5 < _; omega,by have:=r.un; show A.units + 3 + 16 * k + 200 < _; omega⟩
theorem Room.in1 {k:Nat} {A:Around} (r:Room (k + 1) A):Room k A.in1 :=
  ⟨r.hd,by have:=r.dp; show A.depth + 3 * k + 5 < _; omega,by have:=r.un; show A.units + 1 + 16 * k + 200 < _; omega⟩
theorem make_depth {A:Around} {C:Addr} {us:List Value} {kw:List (Str × Value)}:(A.under (.builtin "type.__call__" ⟨.ref C :: us,kw⟩)).depth = A.depth + 1:=by
  first | rfl | simp [Around.under,Code.weight,Code.isCreation,Code.isGuard,Code.isCaller,Code.frames,Code.isFrame,guardIds]
theorem make_units {A:Around} {C:Addr} {us:List Value} {kw:List (Str × Value)}:(A.under (.builtin "type.__call__" ⟨.ref C :: us,kw⟩)).units = A.units + 1:=by
  first | rfl | simp [Around.under,Code.cUnits,Code.frames,Code.isFrame]
theorem Room.make {k:Nat} {A:Around} (r:Room (k + 1) A) (C:Addr) (us:List Value) (kw:List (Str × Value)):Room k (A.under (.builtin "type.__call__" ⟨.ref C :: us,kw⟩)) :=
  ⟨r.hd,by have:=r.dp; rw [make_depth]; omega,by have:=r.un; rw [make_units]; omega⟩
theorem Room.depth {k:Nat} {A:Around} (r:Room k A):A.depth < recursionLimit:=by have:=r.dp; omega
theorem Room.units {k:Nat} {A:Around} (r:Room k A):A.units + 64 < cLine:=by have:=r.un; omega
def tNil:TA:=fun _ H Q=>Q [] H
def tCons (ta:TE) (tr:TA):TA:=fun σ H Q=>ta σ H fun x H1=>tr σ H1 fun xs H2=>Q (x :: xs) H2
section
variable {X:Cx} {e:Expr} {es:List Expr} {te:TE} {t:TA} {pos:Pos}
theorem pa_nil:PA X [] tNil:=fun _ _ _ _ H Q I h=>Calls.spliced_nil ⟨[],H,I,.nil,h⟩
theorem pa_cons (ha:PE X e te) (hr:PA X es t) (hs:starEach (e :: es) X.env = (false,eval e X.env) :: starEach es X.env:=by rfl):PA X (e :: es) (tCons te t):=by
  intro pos pins s σ H Q I h
  rw [hs]
  show wpAny _ _ (spliced ((false,eval e X.env) :: backTo pos (starEach es X.env))) _ _ s
  refine Calls.spliced_cons (thn (ha pins s σ H _ I h) fun u s1 ⟨x,H1,I1,r1,q1⟩=>?_)
  exact thn (hr pos pins s1 σ H1 _ I1 q1) fun us s2 ⟨xs,H2,I2,r2,q2⟩=>⟨x :: xs,H2,I2,.cons r1 r2,q2⟩
def tTup (t:TA):TE:=fun σ H Q=>t σ H fun xs H1=>xs.length ≤ sizeLine ∧ ∀ p,H1 p = none → Q (.ref p) (upd H1 p (.tup xs))
def tLst (t:TA):TE:=fun σ H Q=>t σ H fun xs H1=>xs.length ≤ sizeLine ∧ ∀ p,H1 p = none → Q (.ref p) (upd H1 p (.lst xs))
theorem pe_tup {x1} (h:PA X es t):PE X (.Tuple es x1 pos) (tTup t):=by
  intro pins s σ H Q I hq
  refine wpAny_Tuple_spliced (thn (h pos pins s σ H _ I hq) fun us s1 ⟨xs,H1,I1,r,z,q⟩=>⟨by rw [← r.length]; exact z,?_⟩)
  have hf:H1 s1.heap.objs.size = none:=I1.hok.fresh (Nat.le_refl _)
  refine ⟨.ref s1.heap.objs.size,upd H1 s1.heap.objs.size (.tup xs),I1.laid (t':=s1.toks) (fun b u e=>Heap.get?_push_of_some _ e) (Nat.le_refl _) ?_,rfl,q _ hf⟩
  exact ⟨z,us,r,⟨_,Heap.get?_push_size _ rfl,rfl,_,rfl⟩⟩
theorem pe_lst (h:PA X es t):PE X (.List es pos) (tLst t):=by
  intro pins s σ H Q I hq
  refine wpAny_List_spliced (thn (h pos pins s σ H _ I hq) fun us s1 ⟨xs,H1,I1,r,z,q⟩=>⟨by rw [← r.length]; exact z,?_⟩)
  have hf:H1 s1.heap.objs.size = none:=I1.hok.fresh (Nat.le_refl _)
  refine ⟨.ref s1.heap.objs.size,upd H1 s1.heap.objs.size (.lst xs),I1.laid (t':=s1.toks) (fun b u e=>Heap.get?_push_of_some _ e) (Nat.le_refl _) ?_,rfl,q _ hf⟩
  exact ⟨z,us,0,r,Heap.get?_push_size _ rfl⟩
end
abbrev Sp:=List V → Hp → VK → XK → Prop
abbrev CXT:=List Env → Hp → Shared → XK → Value → Shared → Prop
structure Env0 (P:Program) (w:World) (K:PySem.W.Frag) (mg:Str → Option Value) (base:Heap) (A:Around) (outer:List Env) (s:Shared) (H:Hp):Prop where
  frames:A.frames = some outer
  mod:Mod K mg base
  bs:∀ b o,base.get? b = some o → s.heap.get? b = some o ∧ H b = none
  bsz:base.objs.size ≤ s.heap.objs.size
  funs:s.heap.FunFrames base outer
  frf:∀ b ∈ frs outer,H b = none
  hok:HOk P w H s.heap
  bare:AllBare s.gens
def CE (outer:List Env) (P:Program) (w:World) (H:Hp) (s:Shared) (Q:VK) (u:Value) (s':Shared):Prop :=
  ∃ v H',s'.os = s.os ∧ AllBare s'.gens ∧ Un (frs outer) [] H H' s.heap s'.heap ∧ HOk P w H' s'.heap ∧ RelV v u ∧ Q v H'
def CR (CX:CXT) (outer:List Env) (P:Program) (w:World) (H:Hp) (s:Shared) (Q:VK) (E:XK) (r:Result) (s':Shared):Prop :=
  match r with
  | .ok (.ret u)=>CE outer P w H s Q u s'
  | .ok _=>False
  | .error e=>CX outer H s E e s'
structure FnOk (P:Program) (w:World) (K:PySem.W.Frag) (mg:Str → Option Value) (base:Heap) (CX:CXT) (k:Nat) (f:Addr) (fd:FuncData) (ps:List Str) (sp:Sp):Prop where
  len:∀ vs H Q E,sp vs H Q E → vs.length = ps.length
  run:∀ (A:Around) (outer:List Env) (s:Shared) (H:Hp) (args:Args) (us:List Value) (vs:List V) (Q:VK) (E:XK),Room k A → Env0 P w K mg base A outer s H → BindsTo s fd args (ps.zip us) → Vals vs us → sp vs H Q E →
    codeAny (model P w) A (.call (.ref f) args) (CR CX outer P w H s Q E) s
theorem FnOk.mono {P:Program} {w:World} {K:PySem.W.Frag} {mg:Str → Option Value} {base:Heap} {CX:CXT} {j k:Nat} {f:Addr} {fd:FuncData} {ps:List Str} {sp:Sp} (F:FnOk P w K mg base CX j f fd ps sp) (h:j ≤ k) :
    FnOk P w K mg base CX k f fd ps sp:=⟨F.len,fun A outer s H args us vs Q E hr=>F.run A outer s H args us vs Q E (hr.mono h)⟩
theorem FnOk.imp {P:Program} {w:World} {K:PySem.W.Frag} {mg:Str → Option Value} {base:Heap} {CX:CXT} {k:Nat} {f:Addr} {fd:FuncData} {ps:List Str} {sp sp':Sp} (F:FnOk P w K mg base CX k f fd ps sp)
    (h:∀ vs H Q E,sp' vs H Q E → sp vs H Q E):FnOk P w K mg base CX k f fd ps sp' :=
  ⟨fun vs H Q E q=>F.len vs H Q E (h _ _ _ _ q),fun A outer s H args us vs Q E hr he hb hv hs=>F.run A outer s H args us vs Q E hr he hb hv (h _ _ _ _ hs)⟩
theorem Env0.make {P:Program} {w:World} {K:PySem.W.Frag} {mg:Str → Option Value} {base:Heap} {A:Around} {outer:List Env} {s:Shared} {H:Hp} (e:Env0 P w K mg base A outer s H) (C:Addr) (us:List Value) (kw:List (Str × Value)) :
    Env0 P w K mg base (A.under (.builtin "type.__call__" ⟨.ref C :: us,kw⟩)) outer s H:=⟨by first | exact e.frames | (simpa [Around.under,Code.envs,Code.isFrame,pushEnvs] using e.frames),e.mod,e.bs,e.bsz,e.funs,e.frf,e.hok,e.bare⟩
theorem Env0.in1 {P:Program} {w:World} {K:PySem.W.Frag} {mg:Str → Option Value} {base:Heap} {A:Around} {outer:List Env} {s:Shared} {H:Hp} (e:Env0 P w K mg base A outer s H) :
    Env0 P w K mg base A.in1 outer s H:=⟨e.frames,e.mod,e.bs,e.bsz,e.funs,e.frf,e.hok,e.bare⟩
section
variable {X:Cx} {pins:List (Addr × Obj)} {σ:St} {H:Hp} {s s':Shared}
theorem Inv.env0 (I:Inv X pins σ H s):Env0 X.prog X.w X.K X.mg X.base X.A X.stack s H :=
  ⟨I.ok.frames,I.ok.mod,I.bs,Nat.le_trans I.ok.bsz I.sz,I.stack,I.stkFree,I.hok,I.bare⟩
theorem Inv.after {Q:VK} {u:Value} (I:Inv X pins σ H s) (h:CE X.stack X.prog X.w H s Q u s'):EP X pins σ Q u s':=by
  obtain ⟨v,H',os,bare,un,hok,r,q⟩:=h
  obtain ⟨hh,g,d,t,os'⟩:=s'
  obtain rfl:os' = s.os:=os
  exact ⟨v,H',I.call (h':=hh) (g':=g) (d':=d) (t':=t) (ch:=[]) un hok bare (fun b z=>absurd z (by simp)),r,q⟩
end
def tCall (sp:Sp) (dvs:List V) (E:XK) (t:TA):TE:=fun σ H Q=>t σ H fun vs H1=>sp (vs ++ dvs) H1 Q E
def tMeth (C:Addr) (m:Str) (sp:Sp) (dvs:List V) (E:XK) (ta:TE) (t:TA):TE:=fun σ H Q=>ta σ H fun x H1=>∃ a dx fs,x = .ref a ∧ H1 a = some (.ins C dx fs) ∧ fs.lookup m = none ∧
  t σ H1 fun vs H2=>sp (x :: (vs ++ dvs)) H2 Q E
def tMake (C:Addr) (sp:Sp) (dvs:List V) (E:XK) (t:TA):TE:=fun σ H Q=>t σ H fun vs H1=>∀ x dx,H1 x = none → H1 dx = none → dx ≠ x →
  sp (.ref x :: (vs ++ dvs)) (upd (upd H1 dx (.own x)) x (.ins C dx [])) (fun v H2=>v = .non ∧ Q (.ref x) H2) E
def Binds (K:PySem.W.Frag) (fd:FuncData) (ps:List Str) (ds:List Value):Prop :=
  ∀ (s:Shared) (us:List Value),K.In s.heap → (us ++ ds).length = ps.length → BindsTo s fd ⟨us,[]⟩ (ps.zip (us ++ ds))
theorem Binds.all {K:PySem.W.Frag} {fd:FuncData} {ps:List Str} (h:∀ us:List Value,us.length = ps.length → bindArgs fd ⟨us,[]⟩ = pure (ps.zip us)):Binds K fd ps []:=fun s us _ hl=>by
  rw [List.append_nil] at hl ⊢
  exact .of_eq (h us hl)
def Passes (CX:CXT) (X:Cx) (E:XK):Prop:=∀ (pins:List (Addr × Obj)) (σ:St) (H:Hp) (s:Shared) (e:Value) (s':Shared),Inv X pins σ H s → CX X.stack H s E e s' → X.xe e s'
section
variable {X:Cx} {CX:CXT} {k:Nat} {f C:Addr} {fd:FuncData} {ps:List Str} {sp:Sp} {dvs:List V} {ds:List Value} {E:XK} {x m:Str} {p pos apos:Pos} {e o:Expr} {es:List Expr} {ta:TE} {t:TA}
theorem run_fn {pins:List (Addr × Obj)} {σ:St} {H:Hp} {s:Shared} {Q:VK} {us:List Value} {vs:List V} (F:FnOk X.prog X.w X.K X.mg X.base CX k f fd ps sp) (hr:Room k X.A) (hb:Binds X.K fd ps ds) (hd:Vals dvs ds) (hx:Passes CX X E)
    (I:Inv X pins σ H s) (r:Vals vs us) (h:sp (vs ++ dvs) H Q E):wpAny (model X.prog X.w) X.A (call (.ref f) us) (EP X pins σ Q) X.xe s:=by
  have r2:Vals (vs ++ dvs) (us ++ ds):=r.append hd
  have hl:(us ++ ds).length = ps.length:=by rw [← r2.length]; exact F.len _ _ _ _ h
  refine wpAny_call (codeAny_mono (F.run X.A X.stack s H ⟨us,[]⟩ (us ++ ds) (vs ++ dvs) Q E hr I.env0 (hb s us I.kIn hl) r2 h) fun r s' hq=>?_)
  cases r with
  | error e=>exact hx pins σ H s e s' I hq
  | ok fl =>
    cases fl with
    | ret u=>exact I.after hq
    | next=>exact False.elim hq
    | brk=>exact False.elim hq
    | cont=>exact False.elim hq
theorem pe_call (F:FnOk X.prog X.w X.K X.mg X.base CX k f fd ps sp) (hr:Room k X.A) (hg:Gl X x) (hm:X.mg x = some (.ref f)) (hk:PySem.W.keepIn X.K (.ref f) = true) (hb:Binds X.K fd ps ds) (hd:Vals dvs ds) (hx:Passes CX X E)
    (ha:PA X (e :: es) t) (hdb:(x == ("__debug__":Str)) = false:=by decide) (he:starEach (e :: es) X.env = (false,eval e X.env) :: starEach es X.env:=by rfl) (hpl:(backTo pos (starEach es X.env)).any (·.1) = false:=by rfl) :
    PE X (.Call (.Name x p) (e :: es) [] pos) (tCall sp dvs E t):=by
  intro pins s σ H Q I h
  refine wpAny_Call_Name_kw (ld_glob I hg hm ?_ hdb)
  refine PySem.W.callWith_K (h₀:=X.base) I.ok.mod.kin hk (thn (ha pos pins s σ H _ I h) fun us s1 ⟨vs,H1,I1,r,q⟩=>⟨I1.kIn,?_⟩) he hpl
  exact run_fn F hr hb hd hx I1 r q
theorem pe_meth {pl:Sem Bool} (he:PE X o ta) (c:Cls X.K C) (hm:Meth X.K C m f) (F:FnOk X.prog X.w X.K X.mg X.base CX k f fd ps sp) (hr:Room k X.A) (hb:Binds X.K fd ps ds) (hd:Vals dvs ds) (hx:Passes CX X E) (ha:PA X (e :: es) t)
    (hst:starEach (e :: es) X.env = (false,eval e X.env) :: starEach es X.env:=by rfl) (hpl:(backTo pos (starEach es X.env)).any (·.1) = false:=by rfl)
    (ht:eval (.Call (.Attribute o m apos) (e :: es) [] pos) X.env = (do
      let ov ← eval o X.env
      standAt apos.atName
      let (f,first) ← holding [ov] (getMethod ov m pl)
      callWith pos f first (backTo pos (starEach (e :: es) X.env)) (backToKw pos (keywordEach [] X.env))):=by rfl) :
    PE X (.Call (.Attribute o m apos) (e :: es) [] pos) (tMeth C m sp dvs E ta t):=by
  intro pins s σ H Q I h
  refine PySem.W.methodCall_KW (pl:=pl) (thn (he pins s σ H _ I h) fun u s1 ⟨x,H1,I1,rx,a,dx,fs,ex,ea,l,q⟩=>?_) ht
  subst ex
  obtain rfl:u = Value.ref a:=rx
  refine getmeth_ok I1 ea c hm l ?_
  refine PySem.W.callWith_K (first:=[.ref a]) (h₀:=X.base) I.ok.mod.kin hm.kp (thn (ha pos pins s1 σ H1 _ I1 q) fun us s2 ⟨vs,H2,I2,r,q2⟩=>⟨I2.kIn,?_⟩) hst hpl
  exact run_fn (us:=.ref a :: us) (vs:=.ref a :: vs) F hr hb hd hx I2 (.cons rfl r) q2
theorem pe_meth0 {pl:Sem Bool} (he:PE X o ta) (c:Cls X.K C) (hm:Meth X.K C m f) (F:FnOk X.prog X.w X.K X.mg X.base CX k f fd ps sp) (hr:Room k X.A) (hb:Binds X.K fd ps ds) (hd:Vals dvs ds) (hx:Passes CX X E)
    (ht:eval (.Call (.Attribute o m apos) [] [] pos) X.env = (do
      let ov ← eval o X.env
      standAt apos.atName
      let (f,first) ← holding [ov] (getMethod ov m pl)
      callWith pos f first (backTo pos (starEach [] X.env)) (backToKw pos (keywordEach [] X.env))):=by rfl) :
    PE X (.Call (.Attribute o m apos) [] [] pos) (tMeth C m sp dvs E ta tNil):=by
  intro pins s σ H Q I h
  refine PySem.W.methodCall_KW (pl:=pl) (thn (he pins s σ H _ I h) fun u s1 ⟨x,H1,I1,rx,a,dx,fs,ex,ea,l,q⟩=>?_) ht
  subst ex
  obtain rfl:u = Value.ref a:=rx
  refine getmeth_ok I1 ea c hm l ?_
  exact PySem.W.callWith_K0 (first:=[.ref a]) I1.kIn hm.kp (run_fn (us:=[.ref a]) (vs:=[.ref a]) F hr hb hd hx I1 (.cons rfl .nil) q)
structure Mk (K:PySem.W.Frag) (C f:Addr):Prop where
  makes:PySem.W.makesIn K C = true
  init:PySem.W.findIn K (.ref C) "__init__" = some (some (.ref f))
  fn:PySem.W.isFn K (.ref f) = true
  kp:PySem.W.keepIn K (.ref C) = true
theorem run_make {pins:List (Addr × Obj)} {σ:St} {H:Hp} {s:Shared} {Q:VK} {us:List Value} {vs:List V} (M:Mk X.K C f) (F:FnOk X.prog X.w X.K X.mg X.base CX k f fd ps sp) (hr:Room (k + 1) X.A) (hb:Binds X.K fd ps ds) (hd:Vals dvs ds)
    (hx:Passes CX X E) (I:Inv X pins σ H s) (r:Vals vs us)
    (h:∀ x dx,H x = none → H dx = none → dx ≠ x → sp (.ref x :: (vs ++ dvs)) (upd (upd H dx (.own x)) x (.ins C dx [])) (fun v H2=>v = .non ∧ Q (.ref x) H2) E) :
    wpAny (model X.prog X.w) X.A (call (.ref C) us) (EP X pins σ Q) X.xe s:=by
  have hq:=h (s.heap.objs.size + 1) s.heap.objs.size (I.hok.fresh (Nat.le_succ _)) (I.hok.fresh (Nat.le_refl _)) (Nat.ne_of_lt (Nat.lt_succ_self _))
  have I2:=Inv.made (C:=C) I
  have r2:Vals (V.ref (s.heap.objs.size + 1) :: (vs ++ dvs)) (Value.ref (s.heap.objs.size + 1) :: (us ++ ds)):=.cons rfl (r.append hd)
  have hl:(Value.ref (s.heap.objs.size + 1) :: us ++ ds).length = ps.length:=by
    have e:=r2.length
    rw [F.len _ _ _ _ hq] at e
    exact e.symm
  refine wpAny_call (make_map (f:=f) I.kIn M.makes M.init (beq_iff_eq.mp M.fn) (codeAny_mono (F.run _ X.stack _ _ ⟨Value.ref (s.heap.objs.size + 1) :: us,[]⟩ (Value.ref (s.heap.objs.size + 1) :: (us ++ ds)) _ _ E (hr.make C us [])
    (I2.env0.make C us []) (hb _ (Value.ref (s.heap.objs.size + 1) :: us) I2.kIn hl) r2 hq) fun r s' hq'=>?_))
  cases r with
  | error e=>exact hx pins σ _ _ e s' I2 hq'
  | ok fl =>
    cases fl with
    | ret u =>
      obtain ⟨v,H',I3,rv,ev,q3⟩:=I2.after hq'
      subst ev
      exact ⟨rv,⟨V.ref (s.heap.objs.size + 1),H',I3,rfl,q3⟩⟩
    | next=>exact False.elim hq'
    | brk=>exact False.elim hq'
    | cont=>exact False.elim hq'
theorem pe_make (M:Mk X.K C f) (F:FnOk X.prog X.w X.K X.mg X.base CX k f fd ps sp) (hr:Room (k + 1) X.A) (hg:Gl X x) (hm:X.mg x = some (.ref C)) (hb:Binds X.K fd ps ds) (hd:Vals dvs ds) (hx:Passes CX X E)
    (ha:PA X (e :: es) t) (hdb:(x == ("__debug__":Str)) = false:=by decide) (he:starEach (e :: es) X.env = (false,eval e X.env) :: starEach es X.env:=by rfl) (hpl:(backTo pos (starEach es X.env)).any (·.1) = false:=by rfl) :
    PE X (.Call (.Name x p) (e :: es) [] pos) (tMake C sp dvs E t):=by
  intro pins s σ H Q I h
  refine wpAny_Call_Name_kw (ld_glob I hg hm ?_ hdb)
  refine PySem.W.callWith_K (h₀:=X.base) I.ok.mod.kin M.kp (thn (ha pos pins s σ H _ I h) fun us s1 ⟨vs,H1,I1,r,q⟩=>⟨I1.kIn,?_⟩) he hpl
  exact run_make M F hr hb hd hx I1 r q
end
section
variable {X:Cx} {CX:CXT} {k:Nat} {f C:Addr} {fd:FuncData} {ps ks:List Str} {sp:Sp} {E:XK} {x m:Str} {p pos apos kpos:Pos} {e o:Expr} {es:List Expr} {kws:List Keyword} {te ta:TE} {t tk:TA} {nm:Option Str}
structure KBinds (K:PySem.W.Frag) (fd:FuncData) (ps ks:List Str) (g:List Value → List Value → List Value) (gV:List V → List V → List V):Prop where
  to:∀ (s:Shared) (us ws:List Value),K.In s.heap → (g us ws).length = ps.length → BindsTo s fd ⟨us,ks.zip ws⟩ (ps.zip (g us ws))
  rel:∀ {vs:List V} {us:List Value} {zs:List V} {ws:List Value},Vals vs us → Vals zs ws → Vals (gV vs zs) (g us ws)
variable {g:List Value → List Value → List Value} {gV:List V → List V → List V}
end
structure FnScope (N P:List Str) (sc:Scope):Prop where
  kind:sc.kind = .function
  co:sc.isCoroutine = false
  gen:sc.isGenerator = false
  nd:N.Nodup
  pre:N.take P.length = P
  par:∀ x ∈ P,sc.names.lookup x = some .local ∨ sc.names.lookup x = some .cell
  nofree:∀ y ∈ sc.names,y.2 ≠ .free
theorem bindL_out {kindOf:Str → Option NameKind} {x:Str}:∀ {binds:List (Str × Value)} {m:Str → Option Value},(∀ v,(x,v) ∉ binds) → bindL kindOf binds m x = m x
  | [],_,_=>rfl
  | (n,v) :: r,m,h=>by
    unfold bindL
    rw [bindL_out fun w hw=>h w (List.mem_cons_of_mem _ hw)]
    split
    · have:x ≠ n:=by rintro rfl; exact h v List.mem_cons_self
      simp [this]
    · rfl
theorem bindC_out {kindOf:Str → Option NameKind} {x:Str}:∀ {binds:List (Str × Value)} {m:Str → Option Value},(∀ v,(x,v) ∉ binds) → bindC kindOf binds m x = m x
  | [],_,_=>rfl
  | (n,v) :: r,m,h=>by
    unfold bindC
    rw [bindC_out fun w hw=>h w (List.mem_cons_of_mem _ hw)]
    split
    · rfl
    · have:x ≠ n:=by rintro rfl; exact h v List.mem_cons_self
      simp [this]
theorem bindL_get {kindOf:Str → Option NameKind} {x:Str} {v:Value}:∀ {P:List Str} {vs:List Value} {i:Nat} {m:Str → Option Value},P.Nodup → P[i]? = some x → vs[i]? = some v → kindOf x = some .local →
    bindL kindOf (P.zip vs) m x = some v
  | [],_,_,_,_,h,_,_=>by simp at h
  | _ :: _,[],_,_,_,_,h,_=>by simp at h
  | p :: P,w :: vs,0,m,nd,h1,h2,hk=>by
    simp at h1 h2; subst h1; subst h2
    show bindL kindOf ((p,w) :: P.zip vs) m p = _
    unfold bindL
    rw [bindL_out fun v hv=>(List.nodup_cons.mp nd).1 (List.of_mem_zip hv).1,if_pos hk]
    simp
  | p :: P,w :: vs,i + 1,m,nd,h1,h2,hk=>by
    show bindL kindOf ((p,w) :: P.zip vs) m x = _
    unfold bindL
    exact bindL_get (i:=i) (List.nodup_cons.mp nd).2 (by simpa using h1) (by simpa using h2) hk
theorem bindC_get {kindOf:Str → Option NameKind} {x:Str} {v:Value}:∀ {P:List Str} {vs:List Value} {i:Nat} {m:Str → Option Value},P.Nodup → P[i]? = some x → vs[i]? = some v → kindOf x ≠ some .local →
    bindC kindOf (P.zip vs) m x = some v
  | [],_,_,_,_,h,_,_=>by simp at h
  | _ :: _,[],_,_,_,_,h,_=>by simp at h
  | p :: P,w :: vs,0,m,nd,h1,h2,hk=>by
    simp at h1 h2; subst h1; subst h2
    show bindC kindOf ((p,w) :: P.zip vs) m p = _
    unfold bindC
    rw [bindC_out fun v hv=>(List.nodup_cons.mp nd).1 (List.of_mem_zip hv).1,if_neg hk]
    simp
  | p :: P,w :: vs,i + 1,m,nd,h1,h2,hk=>by
    show bindC kindOf ((p,w) :: P.zip vs) m x = _
    unfold bindC
    exact bindC_get (i:=i) (List.nodup_cons.mp nd).2 (by simpa using h1) (by simpa using h2) hk
def start (N:List Str) (vs:List V):St:=vs.map some ++ List.replicate (N.length - vs.length) none
def cxOf (CX:CXT) (P:Program) (w:World) (K:PySem.W.Frag) (mg:Str → Option Value) (base:Heap) (N:List Str) (qual:Str) (scope:Scope) (f:Addr) (cd:Value) (A:Around) (outer:List Env) (s:Shared) (H:Hp) (E:XK):Cx where
  prog:=P
  w:=w
  K:=K
  mg:=mg
  base:=base
  A:=A.deeper (envOfC qual scope s.heap.objs.size f cd)
  N:=N
  s₀:=s
  H₀:=H
  env:=envOfC qual scope s.heap.objs.size f cd
  outer:=outer
  stack:=envOfC qual scope s.heap.objs.size f cd :: outer
  ex:=[]
  calm:=true
  fn:=fun _=>true
  pn:=[]
  xe:=fun e s'=>wpAny (model P w) (A.deeper (envOfC qual scope s.heap.objs.size f cd)) (leaving (envOfC qual scope s.heap.objs.size f cd) e) (fun _ s''=>CX outer H s E e s'') (fun e' s''=>CX outer H s E e' s'') s'
theorem cell_has {sc:Scope} {n:Nat} {x:Str} (h:sc.names.lookup x = some .cell):∃ c,(cellsFrom n sc.names []).lookup x = some c:=by
  have q:=PySem.W.cellsFrom_some sc.names n [] (.inl h)
  exact Option.isSome_iff_exists.mp q
theorem inv_start {CX:CXT} {P:Program} {w:World} {K:PySem.W.Frag} {mg:Str → Option Value} {base:Heap} {N ps:List Str} {qual:Str} {scope:Scope} {f:Addr} {cd:Value} {A:Around} {outer:List Env} {s s1:Shared} {H:Hp} {E:XK} {us:List Value} {vs:List V}
    (S:FnScope N ps scope) (hd:A.handled = none) (e0:Env0 P w K mg base A outer s H) (hl:vs.length = ps.length) (r:Vals vs us)
    (x:InCallC s s.heap.objs.size (bindL (envOfC qual scope s.heap.objs.size f cd).kindOf (ps.zip us) fun _=>none) (cellsFrom (s.heap.objs.size + 1) scope.names []) (bindC (envOfC qual scope s.heap.objs.size f cd).kindOf (ps.zip us) fun _=>none) s1) :
    Inv (cxOf CX P w K mg base N qual scope f cd A outer s H E) [] (start N vs) H s1:=by
  have hpl:ps.length ≤ N.length:=by have:=congrArg List.length S.pre; rw [List.length_take] at this; omega
  obtain ⟨h1,tk,rfl,hk⟩:=x.done
  have noA:∀ b:Addr,b ∉ (cxOf CX P w K mg base N qual scope f cd A outer s H E).ex:=fun b z=>absurd (show b ∈ ([]:List Addr) from z) (by simp)
  refine ⟨⟨e0.mod,S.kind,rfl,rfl,Nat.le_refl _,fun y z c h1 h2=>?_,fun y hy=>?_,fun y c _ h=>?_,fun _=>hd,Around.frames_deeper e0.frames,.inr ⟨rfl,rfl⟩,fun b z=>absurd z (noA b),e0.bs,e0.bsz,fun b _ _=>noA b,fun b z=>absurd z (noA b),e0.funs,e0.frf⟩,
    rfl,e0.bare,Un.kept hk,⟨_,x.toInCall.ns,fun i y v h1 h2 h3=>?_⟩,fun y c h=>⟨_,x.cell y c h⟩,e0.hok.fresh (Nat.le_refl _),fun y c h=>?_,fun p hp=>absurd (show p ∈ ([]:List (Addr × Obj)) from hp) (by simp),e0.hok.kept hk,?_⟩
  · exact name_of_addr x.apart (PySem.mem_of_lookup h1) (PySem.mem_of_lookup h2)
  · have hy:scope.names.lookup y = some .cell ∨ scope.names.lookup y = some .free:=hy
    rcases hy with hy | hy
    · exact cell_has hy
    · exact absurd rfl (S.nofree _ (PySem.mem_of_lookup hy))
  · exact Nat.le_of_lt (x.above y c (PySem.mem_of_lookup h))
  · have hi:i < vs.length:=by
      unfold start at h2
      by_cases hi:i < vs.length
      · exact hi
      · rw [List.getElem?_append_right (by simpa using hi)] at h2
        rw [List.getElem?_replicate] at h2
        split at h2 <;> cases h2
    have ha:vs[i]? = some v:=by
      unfold start at h2
      rw [List.getElem?_append_left (by simpa using hi),List.getElem?_map] at h2
      cases e:vs[i]? with
      | none=>rw [e] at h2; cases h2
      | some a=>rw [e] at h2; cases h2; rfl
    obtain ⟨u,hu,rv⟩:=r.get ha
    have hp:ps[i]? = some y:=by
      rw [← S.pre,List.getElem?_take_of_lt (by omega)]; exact h1
    have ndP:ps.Nodup:=by rw [← S.pre]; exact S.nd.sublist (List.take_sublist _ _)
    refine ⟨u,rv,?_⟩
    rcases S.par y (List.mem_of_getElem? hp) with k | k
    · exact .inl ⟨k,bindL_get ndP hp hu k⟩
    · obtain ⟨c,e⟩:=cell_has (n:=s.heap.objs.size + 1) k
      refine .inr ⟨.inl k,c,e,?_⟩
      have q:=x.cell y c e
      rw [bindC_get ndP hp hu (by show scope.names.lookup y ≠ _; rw [k]; decide)] at q
      exact q
  · exact e0.hok.fresh (Nat.le_of_lt (x.above y c (PySem.mem_of_lookup h)))
  · unfold start
    show _ = N.length
    rw [List.length_append,List.length_map,List.length_replicate]
    omega
theorem fn_of {CX:CXT} {P:Program} {w:World} {K:PySem.W.Frag} {mg:Str → Option Value} {base:Heap} {k:Nat} {f:Addr} {name qual:Str} {params:Arguments} {body:List Stmt} {scope:Scope} {dV kV doc pm cdv ct oc:Value} {an od:Option Addr}
    {osl:Array (Option Value)} {N ps:List Str} {sp:Sp} (lk:K.lookup f = some ⟨oc,od,.func (PySem.W.fnOf name qual params body scope dV kV doc pm an cdv ct),osl⟩) (hcd:PySem.W.codeIn K cdv qual = true) (S:FnScope N ps scope)
    (len:∀ vs H Q E,sp vs H Q E → vs.length = ps.length)
    (hbody:∀ (A:Around) (outer:List Env) (s:Shared) (H:Hp) (vs:List V) (Q:VK) (E:XK),Room k (A.deeper (envOfC qual scope s.heap.objs.size f cdv)) → sp vs H Q E →
      ∃ t,PSs (cxOf CX P w K mg base N qual scope f cdv A outer s H E) body t ∧ t { nx:=fun _ H'=>Q .non H',rt:=Q } (start N vs) H) :
    FnOk P w K mg base CX (k + 1) f (PySem.W.fnOf name qual params body scope dV kV doc pm an cdv ct) ps sp:=by
  refine ⟨len,fun A outer s H args us vs Q E hr e0 hb r hsp=>?_⟩
  have hl:=len _ _ _ _ hsp
  have KX:K.In s.heap:=e0.mod.kin.keeps fun b o e=>(e0.bs b o e).1
  have lim:s.heap.NoLimit:=e0.mod.nolimit.keeps fun b o e=>(e0.bs b o e).1
  have hkind:∀ y ∈ ps.zip us,scope.names.lookup y.1 = some .local ∨ (scope.names.lookup y.1 = some .cell ∧ ((cellsFrom (s.heap.objs.size + 1) scope.names []).lookup y.1).isSome = true):=fun ⟨n,v⟩ hy=>by
    rcases S.par n (List.of_mem_zip hy).1 with q | q
    · exact .inl q
    · exact .inr ⟨q,PySem.W.cellsFrom_some _ _ _ (.inl q)⟩
  refine codeAny_call_function hr.depth (KX _ _ lk) rfl S.co S.gen rfl (PySem.W.codeRec_of KX hcd) (hb _ _ _ _ ?_)
  refine wpAny_newFunctionEnv_cells S.kind hkind fun env he s1 x=>?_
  subst he
  refine ⟨lim.keeps x.toInCall.keep,codeAny_func ?_⟩
  obtain ⟨t,ht,hq⟩:=hbody A outer s H vs Q E (hr.deeper _) hsp
  have I:Inv (cxOf CX P w K mg base N qual scope f cdv A outer s H E) [] (start N vs) H s1:=inv_start S hr.hd e0 hl r x
  refine wpAny_mono (ht [] s1 (start N vs) H _ I hq) (fun fl s' hs=>?_) fun e s' hs=>hs
  have fin:∀ {σ':St} {H':Hp} {v:V} {u:Value},Inv (cxOf CX P w K mg base N qual scope f cdv A outer s H E) [] σ' H' s' → RelV v u → Q v H' → CE outer P w H s Q u s' :=
    fun {σ' H' v u} J rv q=>⟨v,H',J.os,J.bare,J.base,J.hok,rv,q⟩
  cases fl with
  | ret u =>
    obtain ⟨v,σ',H',J,rv,q⟩:=hs
    exact fin J rv q
  | next =>
    obtain ⟨σ',H',J,q⟩:=hs
    exact fin (v:=V.non) (u:=Value.none) J rfl q
  | brk =>
    obtain ⟨_,_,_,q⟩:=hs
    exact False.elim q
  | cont =>
    obtain ⟨_,_,_,q⟩:=hs
    exact False.elim q
end L2
namespace L2
open PySem PySem.Spec PyProof.Rows
section
variable {X:Cx} {x:Str} {p pos:Pos} {e:Expr} {es:List Expr} {t:TA} {id T:String} {r:List V → Hp → VK → Prop}
def tCB (r:List V → Hp → VK → Prop) (t:TA):TE:=fun σ H Q=>t σ H fun vs H1=>r vs H1 Q
theorem pe_callB (hc:CallR X (.builtin id) r) (hg:Gl X x) (hm:X.mg x = none) (hv:bootBuiltins x = some (.builtin id)) (ha:PA X (e :: es) t) (hn:x ≠ "__name__":=by decide) (hdb:(x == ("__debug__":Str)) = false:=by decide)
    (he:starEach (e :: es) X.env = (false,eval e X.env) :: starEach es X.env:=by rfl) (hpl:(backTo pos (starEach es X.env)).any (·.1) = false:=by rfl):PE X (.Call (.Name x p) (e :: es) [] pos) (tCB r t):=by
  intro pins s σ H Q I h
  refine wpAny_Call_Name_kw (ld_blt I hg hm hv ?_ hn hdb)
  exact PyProof.Rows.callWith_builtin1 (thn (ha pos pins s σ H _ I h) fun us s1 ⟨vs,H1,I1,r1,q1⟩=>hc pins s1 σ H1 vs us Q I1 r1 q1) he hpl
theorem pe_callTy (hc:CallR X (.type T) r) (hg:Gl X x) (hm:X.mg x = none) (hv:bootBuiltins x = some (.type T)) (ha:PA X (e :: es) t) (hn:x ≠ "__name__":=by decide) (hdb:(x == ("__debug__":Str)) = false:=by decide)
    (he:starEach (e :: es) X.env = (false,eval e X.env) :: starEach es X.env:=by rfl) (hpl:(backTo pos (starEach es X.env)).any (·.1) = false:=by rfl):PE X (.Call (.Name x p) (e :: es) [] pos) (tCB r t):=by
  intro pins s σ H Q I h
  refine wpAny_Call_Name_kw (ld_blt I hg hm hv ?_ hn hdb)
  exact PyProof.Rows.callWith_type1 (thn (ha pos pins s σ H _ I h) fun us s1 ⟨vs,H1,I1,r1,q1⟩=>hc pins s1 σ H1 vs us Q I1 r1 q1) he hpl
end
end L2
namespace HT
open PySem PyProof.Rows
section
open PySem.SeqAt
open PySem.AutoSeq1 (wpAny_loadPart')
open PySem.MeetsSeq PySem.MeetsSeq2 PySem.MeetsSeq3
end
section
variable {prog:Program} {w:World} {A:Around} {E:Value → Shared → Prop} {s:Shared}
theorem cat_tup {t b:Addr} {vs ws:List Value} {Q:Value → Shared → Prop} (ht:IsTup s.heap t vs.toArray) (hb:IsTup s.heap b ws.toArray) (hv:vs ≠ [])
    (h1:ws = [] → Q (.ref t) s) (h2:ws ≠ [] → Q (.ref s.heap.objs.size) { s with heap:=s.heap.push { cls:=.type "tuple",data:=.seq (vs ++ ws).toArray } })
    (hsz:vs.length + ws.length ≤ sizeLine):wpAny (model prog w) A (binaryOp .Add (.ref t) (.ref b)) Q E s:=by
  obtain ⟨⟨cls,dd,data,sl⟩,ho,hc,n,hd⟩:=id ht
  obtain ⟨⟨cls2,dd2,data2,sl2⟩,ho2,hc2,n2,hd2⟩:=id hb
  simp only at hc hd hc2 hd2
  subst hc hd hc2 hd2
  have e:vs.toArray ++ ws.toArray = (vs ++ ws).toArray:=by simp
  by_cases hw:ws = []
  · exact concat_meets ⟨_,ho,rfl⟩ ⟨_,ho2,rfl⟩ noFill_tuple_add seq_tuple_add PySem.F.slot_tuple_add PySem.F.entry_tuple_add (PySem.F.args_tuple_add_2 _ _)
      (tuple_addW1 t b vs.toArray ws.toArray n n2 dd dd2 sl sl2 (by simpa using hv) (by simp [hw])) ⟨ho,ho2,h1 hw⟩
  · refine concat_meets ⟨_,ho,rfl⟩ ⟨_,ho2,rfl⟩ noFill_tuple_add seq_tuple_add PySem.F.slot_tuple_add PySem.F.entry_tuple_add (PySem.F.args_tuple_add_2 _ _)
      (tuple_addW2 t b vs.toArray ws.toArray n n2 dd dd2 sl sl2 (by simpa using hv) (by simpa using hw) (by rw [List.size_toArray,List.size_toArray]; exact hsz)) ⟨ho,ho2,?_⟩
    rw [e]
    exact h2 hw
def sIx (n d:Nat):Option Int → Nat
  | none=>d
  | some v=>if v < 0 then (v + (n:Int)).toNat else min v.toNat n
theorem sIx_none (n d:Nat):sIx n d none = d:=rfl
theorem sIx_nat (n d k:Nat):sIx n d (some (k:Int)) = min k n:=by
  show (if (k:Int) < 0 then ((k:Int) + (n:Int)).toNat else min (k:Int).toNat n) = min k n
  rw [if_neg (by omega),Int.toNat_natCast]
theorem sIx_le (n d:Nat) (hd:d ≤ n) (o:Option Int):sIx n d o ≤ n:=by
  cases o with
  | none=>exact hd
  | some v =>
    show (if v < 0 then (v + (n:Int)).toNat else min v.toNat n) ≤ n
    by_cases hv:v < 0
    · rw [if_pos hv]; omega
    · rw [if_neg hv]; exact Nat.min_le_right _ _
theorem clip_eq (v:Int) (n d:Nat):(if v < 0 then max (v + (n:Int)) 0 else min v (n:Int)) = ((sIx n d (some v):Nat):Int):=by
  show (if v < 0 then max (v + (n:Int)) 0 else min v (n:Int)) = (((if v < 0 then (v + (n:Int)).toNat else min v.toNat n):Nat):Int)
  by_cases hv:v < 0
  · simp only [if_pos hv]; omega
  · simp only [if_neg hv]; omega
theorem adjust_gen (lo hi:Option Int) (n:Nat):Builtin.Slice.sliceAdjust lo hi 1 (n:Int) = (((sIx n 0 lo:Nat):Int),((sIx n n hi:Nat):Int)):=by
  have h1:¬ ((1:Int) < 0):=by omega
  unfold Builtin.Slice.sliceAdjust
  simp only [h1,if_false]
  refine Prod.ext ?_ ?_
  · cases lo with
    | none=>rfl
    | some v=>exact clip_eq v n 0
  · cases hi with
    | none=>rfl
    | some v=>exact clip_eq v n n
theorem places_gen (i j:Nat):Builtin.Slice.slicePlaces (i:Int) (j:Int) 1 = j - i:=by
  unfold Builtin.Slice.slicePlaces
  have h1:(1:Int) > 0:=by omega
  simp only [h1,if_true,Int.ediv_one]
  split <;> omega
theorem slicePart_ {v:Value} {o:Option Int} {Q:Option Int → Shared → Prop} (p:IsPart v o) (h:Q o s):wpAny (model prog w) A (Builtin.Slice.slicePartIndex v) Q E s:=by
  cases p with
  | none=>exact slicePart_none h
  | int i t=>exact slicePart_int h
theorem sliceApplied_gen {sl:Addr} {vl vu:Value} {lo hi:Option Int} {n:Nat} {Q:Int × Int × Nat → Shared → Prop} (hs:s.heap.IsSliceOf sl vl vu .none) (pl:IsPart vl lo) (pu:IsPart vu hi)
    (h:Q (((sIx n 0 lo:Nat):Int),1,sIx n n hi - sIx n 0 lo) s):wpAny (model prog w) A (Builtin.Slice.sliceApplied (.ref sl) (pure (n:Int))) Q E s:=by
  obtain ⟨os,hos,hcs,hds⟩:=id hs
  unfold Builtin.Slice.sliceApplied Builtin.Slice.sliceFields
  refine wpAny_bind (wpAny_bind (wpAny_field hos hds (x:=vl) rfl (wpAny_bind (wpAny_field hos hds (x:=vu) rfl (wpAny_bind (wpAny_field hos hds (x:=.none) rfl (wpAny_pure ?_)))))))
  refine wpAny_bind (slicePart_none ?_)
  show wpAny _ _ (if ((1:Int) == 0) = true then _ else _) _ _ s
  rw [if_neg (by decide)]
  refine wpAny_bind (slicePart_ pl (wpAny_bind (slicePart_ pu (wpAny_bind (wpAny_pure ?_)))))
  show wpAny _ _ (match Builtin.Slice.sliceAdjust lo hi 1 (n:Int) with | (lo,hi)=>pure (lo,(1:Int),Builtin.Slice.slicePlaces lo hi 1)) _ _ s
  rw [adjust_gen lo hi n]
  show wpAny _ _ (pure (((sIx n 0 lo:Nat):Int),(1:Int),Builtin.Slice.slicePlaces ((sIx n 0 lo:Nat):Int) ((sIx n n hi:Nat):Int) 1)) _ _ s
  rw [places_gen]
  exact wpAny_pure h
theorem pick_gen (xs:Array Value) (i k:Nat):((List.range k).filterMap fun (m:Nat)=>xs[((i:Int) + (m:Int) * 1).toNat]?).toArray = ((xs.toList.drop i).take k).toArray:=by
  have e:(fun (m:Nat)=>xs[((i:Int) + (m:Int) * 1).toNat]?) = fun m=>xs[i + m]?:=by
    funext m
    have:((i:Int) + (m:Int) * 1).toNat = i + m:=by omega
    rw [this]
  rw [e]
  have:=pick_run xs i k
  rw [List.filterMap_map] at this
  have e2:((fun x=>xs[x]?) ∘ fun x=>i + x) = fun m=>xs[i + m]?:=rfl
  rw [e2] at this
  rw [this]
theorem getItem_tuple_cut {t sl:Addr} {items:Array Value} {vl vu:Value} {lo hi:Option Int} {Q:Value → Shared → Prop} (ht:IsTup s.heap t items) (hs:s.heap.IsSliceOf sl vl vu .none) (pl:IsPart vl lo) (pu:IsPart vu hi)
    (hw:¬ (sIx items.size 0 lo = 0 ∧ sIx items.size items.size hi = items.size))
    (h:Q (.ref s.heap.objs.size) { s with heap:=s.heap.push { cls:=.type "tuple",data:=.seq ((items.toList.drop (sIx items.size 0 lo)).take (sIx items.size items.size hi - sIx items.size 0 lo)).toArray } })
    (hsz:items.size ≤ sizeLine):wpAny (model prog w) A (getItem (.ref t) (.ref sl)) Q E s:=by
  have htake:sizeOk (.seq ((items.toList.drop (sIx items.size 0 lo)).take (sIx items.size items.size hi - sIx items.size 0 lo)).toArray):=by
    show ((items.toList.drop (sIx items.size 0 lo)).take (sIx items.size items.size hi - sIx items.size 0 lo)).toArray.size ≤ sizeLine
    rw [List.size_toArray,List.length_take,List.length_drop,Array.length_toList]
    omega
  have hj:sIx items.size items.size hi ≤ items.size:=sIx_le _ _ (Nat.le_refl _) hi
  obtain ⟨os,hos,hcs,hds⟩:=id hs
  have hTs:s.TypeIs (.ref sl) "slice":=⟨os,hos,hcs⟩
  unfold getItem
  try with_reducible refine wpAny_holding ?_
  first | refine wpAny_bind (wpAny_pure ?_) | skip
  refine wpAny_bind (wpAny_sequenceKey ht.typeIs (by decide) ?_)
  refine wpAny_bind (wpAny_callSpecial?_slot (name:=Str.ofString "__getitem__") ht.typeIs PyProof.Rows.slot_tuple_getitem
    (wpAny_call_entry PyProof.Rows.slot_tuple_getitem ht.typeIs entry_tuple_getitem ?_ (args_tuple_getitem _ _)))
  show wpAny _ _ (Builtin.Tuple.tupleItemsOf (.ref t) >>= _) _ _ s
  refine wpAny_bind (tupleItemsOf_ ht ?_)
  refine wpAny_bind (wpAny_typeOf hTs ?_)
  rw [if_pos (by decide)]
  refine wpAny_bind (sliceApplied_gen hs pl pu ?_)
  have hno:¬ ((((sIx items.size 0 lo:Nat):Int) == 0 && (1:Int) == 1 && (sIx items.size items.size hi - sIx items.size 0 lo) == items.size) = true):=by
    intro q
    rw [Bool.and_eq_true,Bool.and_eq_true] at q
    have q1:((sIx items.size 0 lo:Nat):Int) = 0:=eq_of_beq q.1.1
    have q2:sIx items.size items.size hi - sIx items.size 0 lo = items.size:=eq_of_beq q.2
    exact hw ⟨by omega,by omega⟩
  show wpAny _ _ (if (((sIx items.size 0 lo:Nat):Int) == 0 && (1:Int) == 1 && (sIx items.size items.size hi - sIx items.size 0 lo) == items.size) = true then _ else _) _ _ s
  rw [if_neg hno,pick_gen]
  first
    | exact wpAny_bind (m:=Builtin.Tuple.tupleExact _) (wpAny_newObj_type (wpAny_pure ⟨_,rfl,wpAny_pure h⟩) htake)
    | exact wpAny_bind (m:=Builtin.Tuple.tupleExact _) (wpAny_newObj_type (wpAny_bind (wpAny_pure (wpAny_pure ⟨_,rfl,wpAny_pure h⟩))) htake)
    | exact wpAny_bind (wpAny_bind (m:=Builtin.Tuple.tupleExact _) (wpAny_newObj_type (wpAny_pure (wpAny_pure ⟨_,rfl,wpAny_pure h⟩)) htake))
    | exact wpAny_bind (wpAny_bind (m:=Builtin.Tuple.tupleExact _) (wpAny_newObj_type (wpAny_pure ⟨_,rfl,wpAny_pure h⟩) htake))
end
end HT
namespace L2
open PySem PySem.Spec PyProof.Rows
abbrev TO:=St → Hp → (Option Int → Hp → Prop) → Prop
def PO (X:Cx) (e:Option Expr) (t:TO):Prop :=
  ∀ (pins:List (Addr × Obj)) (s:Shared) (σ:St) (H:Hp) (Q:Option Int → Hp → Prop),Inv X pins σ H s → t σ H Q →
    wpAny (model X.prog X.w) X.A (evalPart e X.env) (fun u s'=>∃ o H',Inv X pins σ H' s' ∧ IsPart u o ∧ Q o H') X.xe s
def tNoPart:TO:=fun _ H Q=>Q none H
def tPart (t:TE):TO:=fun σ H Q=>t σ H fun x H1=>∃ i,x = .int i ∧ Q (some i) H1
section
variable {X:Cx} {e:Expr} {te:TE} {lo hi:Option Expr} {tl th:TO} {pos p2:Pos}
theorem po_none:PO X none tNoPart:=by
  intro pins s σ H Q I h
  rw [evalPart_none]
  exact wpAny_pure ⟨none,H,I,.none,h⟩
theorem po_some (h:PE X e te):PO X (some e) (tPart te):=by
  intro pins s σ H Q I hw
  rw [evalPart_some]
  refine thn (h pins s σ H _ I hw) fun u s1 ⟨x,H1,I1,r1,q1⟩=>?_
  obtain ⟨i,rfl,q⟩:=q1
  obtain ⟨t,rfl⟩:=r1
  exact ⟨some i,H1,I1,.int i t,q⟩
def SlR (X:Cx) (r:V → Option Int → Option Int → Hp → VK → Prop):Prop :=
  ∀ (pins:List (Addr × Obj)) (s:Shared) (σ:St) (H:Hp) (x:V) (v vl vu:Value) (lo hi:Option Int) (sl:Addr) (Q:VK),Inv X pins σ H s → RelV x v → s.heap.IsSliceOf sl vl vu .none → IsPart vl lo → IsPart vu hi → r x lo hi H Q →
    ∃ T id,typeLookup (.type T) "__getitem__" = pure (some (.builtin id)) ∧ s.TypeIs v T ∧ wpAny (model X.prog X.w) X.A (getItem v (.ref sl)) (EP X pins σ Q) X.xe s
def tSl (r:V → Option Int → Option Int → Hp → VK → Prop) (te:TE) (tl th:TO):TE:=fun σ H Q=>te σ H fun x H1=>tl σ H1 fun l H2=>th σ H2 fun u H3=>r x l u H3 Q
theorem pe_slice {r:V → Option Int → Option Int → Hp → VK → Prop} (hr:SlR X r) (he:PE X e te) (hl:PO X lo tl) (hu:PO X hi th):PE X (.Subscript e (.Slice lo hi none p2) pos) (tSl r te tl th):=by
  intro pins s σ H Q I h
  refine Subscript_ (thn (he pins s σ H _ I h) fun v s1 ⟨x,H1,I1,r1,q1⟩=>?_)
  refine wpAny_Slice (thn (hl pins s1 σ H1 _ I1 q1) fun vl s2 ⟨l,H2,I2,pl,q2⟩=>thn (hu pins s2 σ H2 _ I2 q2) fun vu s3 ⟨u,H3,I3,pu,q3⟩=>?_)
  rw [evalPart_none]
  refine wpAny_pure ?_
  have I4:Inv X pins σ H3 { s3 with heap:=s3.heap.push { cls:=.type "slice",data:=.fields #[vl,vu,.none] } }:=I3.kept (t':=s3.toks) fun b ob q=>Heap.get?_push_of_some _ q
  obtain ⟨T,id,hT,ht,hg⟩:=hr pins { s3 with heap:=s3.heap.push { cls:=.type "slice",data:=.fields #[vl,vu,.none] } } σ H3 x v vl vu l u s3.heap.objs.size Q I4 r1 (Heap.IsSliceOf.new ..) pl pu q3
  show wpAny (model X.prog X.w) X.A (subscriptTail e (.Slice lo hi none p2) v (.ref s3.heap.objs.size)) (EP X pins σ Q) X.xe { s3 with heap:=s3.heap.push { cls:=.type "slice",data:=.fields #[vl,vu,.none] } }
  exact tail_any (ops:=[.ref s3.heap.objs.size,v]) ht hT hg (by with_unfolding_all rfl)
def cutV (xs:List V) (lo hi:Option Int):List V:=(xs.drop (HT.sIx xs.length 0 lo)).take (HT.sIx xs.length xs.length hi - HT.sIx xs.length 0 lo)
theorem cutV_length (xs:List V) (lo hi:Option Int):(cutV xs lo hi).length ≤ xs.length:=by
  unfold cutV
  rw [List.length_take,List.length_drop]
  omega
def rSlT (K:PySem.W.Frag):V → Option Int → Option Int → Hp → VK → Prop:=fun x lo hi H Q=>∃ a xs,x = .ref a ∧ SqT K H a xs ∧
  ¬ (HT.sIx xs.length 0 lo = 0 ∧ HT.sIx xs.length xs.length hi = xs.length) ∧ ∀ p,H p = none → Q (.ref p) (upd H p (.tup (cutV xs lo hi)))
theorem sl_tup:SlR X (rSlT X.K):=by
  intro pins s σ H x v vl vu lo hi sl Q I rx hs pl pu h
  obtain ⟨a,xs,rfl,hx,hw,q⟩:=h
  cases rx
  obtain ⟨its,r,ht,hz⟩:=I.tuple hx
  have hlen:its.toArray.size = xs.length:=by rw [List.size_toArray]; exact r.length.symm
  refine ⟨"tuple",_,PyProof.Rows.slot_tuple_getitem.lookup,ht.typeIs,?_⟩
  refine HT.getItem_tuple_cut ht hs pl pu (by rw [hlen]; exact hw) ?_ (by rw [hlen]; exact hz)
  rw [hlen]
  refine ⟨.ref s.heap.objs.size,_,I.laid (t':=s.toks) (o:=.tup (cutV xs lo hi)) (fun b ob q=>Heap.get?_push_of_some _ q) (Nat.le_refl _) ?_,rfl,q _ (I.hok.fresh (Nat.le_refl _))⟩
  exact ⟨Nat.le_trans (cutV_length xs lo hi) hz,_,(r.drop (HT.sIx xs.length 0 lo)).take (HT.sIx xs.length xs.length hi - HT.sIx xs.length 0 lo),IsTup.new _ _⟩
def rCatT (K:PySem.W.Frag):R2:=fun x y H Q=>∃ a b xs ys,x = .ref a ∧ y = .ref b ∧ SqT K H a xs ∧ SqT K H b ys ∧ xs ≠ [] ∧ xs.length + ys.length ≤ sizeLine ∧
  (ys = [] → Q (.ref a) H) ∧ (ys ≠ [] → ∀ p,H p = none → Q (.ref p) (upd H p (.tup (xs ++ ys))))
theorem Vals.nil_iff {xs:List V} {us:List Value} (r:Vals xs us):us = [] ↔ xs = []:=by
  cases r with
  | nil=>simp
  | cons _ _=>simp
theorem op_catT:OpR X (binaryOp .Add) (rCatT X.K):=by
  intro pins s σ H x y v u Q I rx ry h
  obtain ⟨a,b,xs,ys,rfl,rfl,ha,hb,hx,hz,q1,q2⟩:=h
  cases rx
  cases ry
  obtain ⟨its,r1,p1,_⟩:=I.tuple ha
  obtain ⟨its2,r2,p2,_⟩:=I.tuple hb
  refine HT.cat_tup p1 p2 (fun z=>hx (r1.nil_iff.mp z)) (fun z=>⟨.ref a,H,I,rfl,q1 (r2.nil_iff.mp z)⟩) (fun z=>?_) (by rw [← r1.length,← r2.length]; exact hz)
  refine ⟨.ref s.heap.objs.size,_,I.laid (t':=s.toks) (o:=.tup (xs ++ ys)) (fun b ob q=>Heap.get?_push_of_some _ q) (Nat.le_refl _) ?_,rfl,q2 (fun w=>z (r2.nil_iff.mpr w)) _ (I.hok.fresh (Nat.le_refl _))⟩
  exact ⟨by rw [List.length_append]; exact hz,_,r1.append r2,IsTup.new _ _⟩
end
end L2
namespace L2
open PySem PySem.Spec PyProof.Rows
def ixN (n:Nat) (i:Int):Option Nat:=if 0 ≤ i then (if i < n then some i.toNat else none) else if -(n:Int) ≤ i then some (i + n).toNat else none
def atI {α:Type} (xs:List α) (i:Int):Option α:=(ixN xs.length i).bind fun j=>xs[j]?
theorem ixN_seq {n:Nat} {i:Int} {j:Nat} (h:ixN n i = some j):seqIndex? i n = some j ∧ j < n ∧ -(n:Int) ≤ i ∧ i < n:=by
  unfold ixN at h
  by_cases h0:0 ≤ i
  · rw [if_pos h0] at h
    by_cases h1:i < n
    · rw [if_pos h1] at h
      have e:i.toNat = j:=Option.some.inj h
      exact ⟨by rw [seqIndex_of h0 h1,e],by omega,by omega,h1⟩
    · rw [if_neg h1] at h; cases h
  · rw [if_neg h0] at h
    by_cases h1:-(n:Int) ≤ i
    · rw [if_pos h1] at h
      have e:(i + n).toNat = j:=Option.some.inj h
      exact ⟨by rw [seqIndex_neg (by omega) h1,e],by omega,h1,by omega⟩
    · rw [if_neg h1] at h; cases h
theorem atI_get {α:Type} {xs:List α} {i:Int} {v:α} (h:atI xs i = some v):∃ j,seqIndex? i xs.length = some j ∧ xs[j]? = some v ∧ j < xs.length ∧ -(xs.length:Int) ≤ i ∧ i < xs.length:=by
  unfold atI at h
  cases e:ixN xs.length i with
  | none=>rw [e] at h; cases h
  | some j =>
    rw [e] at h
    obtain ⟨h1,h2,h3,h4⟩:=ixN_seq e
    exact ⟨j,h1,h,h2,h3,h4⟩
theorem atI_nat {α:Type} {xs:List α} {j:Nat} {v:α} (h:xs[j]? = some v):atI xs (j:Int) = some v:=by
  have hj:j < xs.length:=(List.getElem?_eq_some_iff.mp h).1
  have e:ixN xs.length (j:Int) = some j:=by
    unfold ixN
    rw [if_pos (by omega),if_pos (by omega)]; simp
  unfold atI; rw [e]; exact h
theorem atI_last {α:Type} (xs:List α) (v:α):atI (xs ++ [v]) (-1) = some v:=by
  have hl:(xs ++ [v]).length = xs.length + 1:=by simp
  have e:ixN (xs ++ [v]).length (-1) = some xs.length:=by
    unfold ixN
    rw [hl,if_neg (by decide),if_pos (by omega)]
    congr 1
    omega
  unfold atI
  rw [e]
  show (xs ++ [v])[xs.length]? = some v
  simp
def PlainIx (b:Expr):Prop:=∀ o i,subscripted b false o i = operate [o,i] (getItem o i)
def IxR (X:Cx) (r:R2):Prop :=
  ∀ (value slice:Expr) (pins:List (Addr × Obj)) (s:Shared) (σ:St) (H:Hp) (x y:V) (v u:Value) (Q:VK),Inv X pins σ H s → RelV x v → RelV y u → r x y H Q →
    subscripted slice false v u = operate [v,u] (getItem v u) → wpAny (model X.prog X.w) X.A (subscriptTail value slice v u) (EP X pins σ Q) X.xe s
def MtR (X:Cx) (id:String) (r:V → List V → Hp → VK → Prop):Prop :=
  ∀ (pins:List (Addr × Obj)) (s:Shared) (σ:St) (H:Hp) (x:V) (xs:List V) (v:Value) (us:List Value) (Q:VK),Inv X pins σ H s → RelV x v → Vals xs us → r x xs H Q →
    wpAny (model X.prog X.w) X.A (call (.builtin id) (v :: us)) (EP X pins σ Q) X.xe s
section
variable {X:Cx} {a b:Expr} {ta tb:TE} {pos:Pos}
theorem pe_ix {r:R2} (hr:IxR X r) (ha:PE X a ta) (hb:PE X b tb) (hs:PlainIx b):PE X (.Subscript a b pos) (tOp r ta tb):=by
  intro pins s σ H Q I h
  exact Subscript_ (binT ha hb I h fun v u s2 x y H2 I2 rx ry q=>hr a b pins s2 σ H2 x y v u Q I2 rx ry q (hs _ _))
def rIxL (K:PySem.W.Frag):R2:=fun x y H Q=>∃ p xs i v,x = .ref p ∧ y = .int i ∧ SqL K H p xs ∧ atI xs i = some v ∧ Q v H
def rIxT (K:PySem.W.Frag):R2:=fun x y H Q=>∃ p xs i v,x = .ref p ∧ y = .int i ∧ SqT K H p xs ∧ atI xs i = some v ∧ Q v H
def rIxS:R2:=fun x y H Q=>∃ z i c,x = .str z ∧ y = .int i ∧ z.length ≤ sizeLine ∧ atI z.cps.toList i = some c ∧ Q (.str ⟨#[c]⟩) H
theorem ix_list:IxR X (rIxL X.K):=by
  intro value slice pins s σ H x y v u Q I rx ry h hs
  obtain ⟨p,xs,i,z,rfl,rfl,hq,he,q⟩:=h
  cases rx
  obtain ⟨t,rfl⟩:=ry
  obtain ⟨its,r,pl,hz⟩:=I.list hq
  obtain ⟨j,h1,h2,h3,h4,h5⟩:=atI_get he
  obtain ⟨w,ew,rw'⟩:=r.get h2
  have hl:=r.length
  have hn:=line63
  have fin:EP X pins σ Q w s:=⟨z,H,I,rw',q⟩
  by_cases h0:0 ≤ i
  · have hj:i.toNat = j:=by
      rw [seqIndex_of h0 h5] at h1
      exact Option.some.inj h1
    exact item_listR pl.isList h0 (by omega) (by rw [hj]; simpa using ew) fin hs
  · have hj:(i + (its.toArray.size:Int)).toNat = j:=by
      rw [seqIndex_neg (by omega) h4] at h1
      rw [List.size_toArray,← hl]
      exact Option.some.inj h1
    exact subscriptTail_builtinR (x:=w) pl.isList.typeIs slot_list_getitem.lookup
      (wpAny_getItem_list_neg (Q:=fun r s'=>r = w ∧ EP X pins σ Q r s') pl.isList (by omega) (by rw [List.size_toArray] <;> omega) (by omega) (by rw [hj]; simpa using ew) ⟨rfl,fin⟩) hs
theorem ix_tup:IxR X (rIxT X.K):=by
  intro value slice pins s σ H x y v u Q I rx ry h hs
  obtain ⟨p,xs,i,z,rfl,rfl,hq,he,q⟩:=h
  cases rx
  obtain ⟨t,rfl⟩:=ry
  obtain ⟨its,r,pl,hz⟩:=I.tuple hq
  obtain ⟨j,h1,h2,h3,h4,h5⟩:=atI_get he
  obtain ⟨w,ew,rw'⟩:=r.get h2
  have hl:=r.length
  have hn:=line63
  have fin:EP X pins σ Q w s:=⟨z,H,I,rw',q⟩
  exact subscriptTail_builtinR (x:=w) pl.typeIs slot_tuple_getitem.lookup
    (getItem_tuple (j:=j) (Q:=fun r s'=>r = w ∧ EP X pins σ Q r s') pl (by omega) (by omega) (by rw [List.size_toArray,← hl]; exact h1) (by simpa using ew) ⟨rfl,fin⟩) hs
theorem ix_str:IxR X rIxS:=by
  intro value slice pins s σ H x y v u Q I rx ry h hs
  obtain ⟨z,i,c,rfl,rfl,hz,he,q⟩:=h
  obtain ⟨t,rfl⟩:=rx
  obtain ⟨t',rfl⟩:=ry
  obtain ⟨j,h1,h2,h3,h4,h5⟩:=atI_get he
  have hl:z.cps.toList.length = z.length:=by simp [Str.length]
  rw [hl] at h1 h4 h5
  have hn:=line63
  exact tail_any (typeIs_str s z t) slot_str_getitem.lookup (getItem_str (c:=c) (by
    have e1:decide (i < -(2 ^ 63:Int)) = false:=decide_eq_false (by omega)
    have e2:decide (i ≥ 2 ^ 63) = false:=decide_eq_false (by omega)
    rw [e1,e2,Bool.or_false]) (by rw [h1]; simpa using h2) ⟨.str ⟨#[c]⟩,H,I.tok _,⟨_,rfl⟩,q⟩) hs
theorem Inv.lst {pins:List (Addr × Obj)} {σ:St} {H:Hp} {s:Shared} {p:Addr} {xs:List V} (I:Inv X pins σ H s) (h:H p = some (.lst xs)) :
    ∃ (its:List Value) (n:Nat),Vals xs its ∧ s.heap.get? p = some { cls:=.type "list",data:=.seq its.toArray n } ∧ xs.length ≤ sizeLine:=by
  obtain ⟨z,its,n,r,e⟩:=I.hok p _ h
  exact ⟨its,n,r,e,z⟩
def rSetL:V → V → V → Hp → (Hp → Prop) → Prop:=fun o i v H Q=>∃ p xs k j,o = .ref p ∧ i = .int k ∧ H p = some (.lst xs) ∧ ixN xs.length k = some j ∧ Q (upd H p (.lst (xs.set j v)))
theorem slice_bounds (lo hi:Option Int) (n:Nat):(sliceBounds lo hi none n).1 = ((HT.sIx n 0 lo:Nat):Int) ∧ (sliceBounds lo hi none n).2.1 = ((HT.sIx n n hi:Nat):Int) ∧ (sliceBounds lo hi none n).2.2 = 1:=by
  refine ⟨?_,?_,rfl⟩
  · cases lo with
    | none=>simp [sliceBounds,HT.sIx]
    | some i =>
      simp only [sliceBounds,HT.sIx,Option.getD_none,show (1:Int) > 0 by decide,if_true]
      by_cases h:i < 0
      · simp only [h,if_true] <;> omega
      · simp only [h,if_false] <;> omega
  · cases hi with
    | none=>simp [sliceBounds,HT.sIx]
    | some i =>
      simp only [sliceBounds,HT.sIx,Option.getD_none,show (1:Int) > 0 by decide,if_true]
      by_cases h:i < 0
      · simp only [h,if_true] <;> omega
      · simp only [h,if_false] <;> omega
theorem slicePick_cut (its:List Value) (lo hi:Option Int):slicePick its.toArray lo hi none = ((its.drop (HT.sIx its.length 0 lo)).take (HT.sIx its.length its.length hi - HT.sIx its.length 0 lo)).toArray:=by
  obtain ⟨h1,h2,h3⟩:=slice_bounds lo hi its.toArray.size
  unfold slicePick
  rw [h1,h2,h3]
  simp only [sliceRange_one,pick_run,List.size_toArray] <;> rfl
def rSlL (K:PySem.W.Frag):V → Option Int → Option Int → Hp → VK → Prop:=fun x lo hi H Q=>∃ a xs,x = .ref a ∧ SqL K H a xs ∧ ∀ p,H p = none → Q (.ref p) (upd H p (.lst (cutV xs lo hi)))
theorem sl_list:SlR X (rSlL X.K):=by
  intro pins s σ H x v vl vu lo hi sl Q I rx hs pl pu h
  obtain ⟨a,xs,rfl,hx,q⟩:=h
  cases rx
  obtain ⟨its,r,ht,hz⟩:=I.list hx
  have hlen:=r.length
  refine ⟨"list",_,slot_list_getitem.lookup,ht.isList.typeIs,?_⟩
  refine wpAny_getItem_list_slice ht.isList hs pl pu .none (by simp) ?_ (by rw [List.size_toArray] <;> omega)
  rw [slicePick_cut,← hlen]
  refine ⟨.ref s.heap.objs.size,_,I.laid (t':=s.toks) (o:=.lst (cutV xs lo hi)) (fun b ob q=>Heap.get?_push_of_some _ q) (Nat.le_refl _) ?_,rfl,q _ (I.hok.fresh (Nat.le_refl _))⟩
  exact ⟨Nat.le_trans (cutV_length xs lo hi) hz,_,0,(r.drop (HT.sIx xs.length 0 lo)).take (HT.sIx xs.length xs.length hi - HT.sIx xs.length 0 lo),Heap.get?_push_size _ rfl⟩
def flatV:V → Bool
  | .non=>true
  | .bl _=>true
  | .int _=>true
  | .str _=>true
  | _=>false
def eqV:V → V → Bool
  | .non,.non=>true
  | .bl a,.bl b=>a == b
  | .bl a,.int b=>(if a then 1 else 0) == b
  | .int a,.bl b=>a == (if b then 1 else 0)
  | .int a,.int b=>a == b
  | .str a,.str b=>a == b
  | _,_=>false
theorem eqAt_V {A:Around} {s:Shared} {y x:V} {u v:Value} (ry:RelV y u) (rx:RelV x v) (fy:flatV y = true) (fx:flatV x = true):SeqAt.EqAt A s u v (eqV y x):=by
  cases y with
  | non =>
    cases ry
    cases x with
    | non=>cases rx; exact SeqAt.EqAt.same _
    | bl b=>cases rx; exact SeqAt.EqAt.none_bool b
    | int b=>obtain ⟨t,rfl⟩:=rx; exact SeqAt.EqAt.none_int b t
    | str b=>obtain ⟨t,rfl⟩:=rx; exact SeqAt.EqAt.none_str b t
    | _=>exact absurd (show false = true from fx) Bool.false_ne_true
  | bl a =>
    cases ry
    cases x with
    | non=>cases rx; exact SeqAt.EqAt.bool_none a
    | bl b=>cases rx; exact SeqAt.EqAt.bool_bool a b
    | int b=>obtain ⟨t,rfl⟩:=rx; exact SeqAt.EqAt.bool_int a b t
    | str b=>obtain ⟨t,rfl⟩:=rx; exact SeqAt.EqAt.bool_str a b t
    | _=>exact absurd (show false = true from fx) Bool.false_ne_true
  | int a =>
    obtain ⟨t',rfl⟩:=ry
    cases x with
    | non=>cases rx; exact SeqAt.EqAt.int_none a t'
    | bl b=>cases rx; exact SeqAt.EqAt.int_bool a t' b
    | int b=>obtain ⟨t,rfl⟩:=rx; exact SeqAt.EqAt.int_int a t' b t
    | str b=>obtain ⟨t,rfl⟩:=rx; exact SeqAt.EqAt.int_str a t' b t
    | _=>exact absurd (show false = true from fx) Bool.false_ne_true
  | str a =>
    obtain ⟨t',rfl⟩:=ry
    cases x with
    | non=>cases rx; exact SeqAt.EqAt.str_none a t'
    | bl b=>cases rx; exact SeqAt.EqAt.str_bool a t' b
    | int b=>obtain ⟨t,rfl⟩:=rx; exact SeqAt.EqAt.str_int a t' b t
    | str b=>obtain ⟨t,rfl⟩:=rx; exact SeqAt.EqAt.str_str a t' b t
    | _=>exact absurd (show false = true from fx) Bool.false_ne_true
  | _=>exact absurd (show false = true from fy) Bool.false_ne_true
def eqU (x:V) (u:Value):Bool:=match u with
  | .none=>eqV .non x
  | .bool b=>eqV (.bl b) x
  | .int i _=>eqV (.int i) x
  | .str z _=>eqV (.str z) x
  | _=>false
theorem eqU_of {x y:V} {u:Value} (r:RelV y u) (f:flatV y = true):eqU x u = eqV y x:=by
  cases y with
  | non=>cases r; rfl
  | bl b=>cases r; rfl
  | int i=>obtain ⟨t,rfl⟩:=r; rfl
  | str z=>obtain ⟨t,rfl⟩:=r; rfl
  | _=>exact absurd (show false = true from f) Bool.false_ne_true
theorem any_eqU {x:V}:∀ {xs:List V} {us:List Value},Vals xs us → xs.all flatV = true → us.any (eqU x) = xs.any fun y=>eqV y x
  | _,_,.nil,_=>rfl
  | y :: xs,u :: us,.cons r t,f=>by
    rw [List.all_cons,Bool.and_eq_true] at f
    rw [List.any_cons,List.any_cons,eqU_of r f.1,any_eqU t f.2]
theorem mem_eqAt {A:Around} {s:Shared} {x:V} {v:Value} (rx:RelV x v) (fx:flatV x = true):∀ {xs:List V} {us:List Value},Vals xs us → xs.all flatV = true → ∀ u ∈ us,SeqAt.EqAt A s u v (eqU x u)
  | _,_,.nil,_=>fun u hu=>by cases hu
  | y :: xs,u :: us,.cons r t,f=>fun u' hu=>by
    rw [List.all_cons,Bool.and_eq_true] at f
    rcases List.mem_cons.mp hu with rfl | hu
    · rw [eqU_of r f.1]; exact eqAt_V r rx f.1 fx
    · exact mem_eqAt rx fx t f.2 u' hu
def inV (x:V) (xs:List V):Bool:=xs.any fun y=>eqV y x
def rIn (K:PySem.W.Frag) (neg:Bool):R2:=fun x y H Q=>∃ p xs,y = .ref p ∧ (SqL K H p xs ∨ SqT K H p xs) ∧ flatV x = true ∧ xs.all flatV = true ∧ Q (.bl (if neg then !inV x xs else inV x xs)) H
theorem op_in_seq:OpR X (compareOp .In) (rIn X.K false):=by
  intro pins s σ H x y v u Q I rx ry h
  obtain ⟨p,xs,rfl,hq,fx,fs,q⟩:=h
  cases ry
  rcases hq with hq | hq
  · obtain ⟨its,r,pl,hz⟩:=I.list hq
    refine SeqAt.in_listAt (eqU x) pl.isList (fun w hw=>mem_eqAt rx fx r fs w (by simpa using hw)) ⟨.bl _,H,I,rfl,?_⟩
    rw [show its.toArray.any (eqU x) = its.any (eqU x) by simp,any_eqU r fs]
    exact q
  · obtain ⟨its,r,pl,hz⟩:=I.tuple hq
    refine SeqAt.in_tupleAt (eqU x) pl (fun w hw=>mem_eqAt rx fx r fs w (by simpa using hw)) ⟨.bl _,H,I,rfl,?_⟩
    rw [show its.toArray.any (eqU x) = its.any (eqU x) by simp,any_eqU r fs]
    exact q
theorem op_notIn_seq:OpR X (compareOp .NotIn) (rIn X.K true):=by
  intro pins s σ H x y v u Q I rx ry h
  obtain ⟨p,xs,rfl,hq,fx,fs,q⟩:=h
  cases ry
  rcases hq with hq | hq
  · obtain ⟨its,r,pl,hz⟩:=I.list hq
    refine SeqAt.notIn_listAt (eqU x) pl.isList (fun w hw=>mem_eqAt rx fx r fs w (by simpa using hw)) ⟨.bl _,H,I,rfl,?_⟩
    rw [show its.toArray.any (eqU x) = its.any (eqU x) by simp,any_eqU r fs]
    exact q
  · obtain ⟨its,r,pl,hz⟩:=I.tuple hq
    refine SeqAt.notIn_tupleAt (eqU x) pl (fun w hw=>mem_eqAt rx fx r fs w (by simpa using hw)) ⟨.bl _,H,I,rfl,?_⟩
    rw [show its.toArray.any (eqU x) = its.any (eqU x) by simp,any_eqU r fs]
    exact q
theorem call_len_seq:CallR X (.builtin "len") (fun xs H Q=>∃ p ys,xs = [.ref p] ∧ (SqL X.K H p ys ∨ SqT X.K H p ys) ∧ Q (.int ys.length) H):=by
  intro pins s σ H xs us Q I r h
  obtain ⟨p,ys,rfl,hq,q⟩:=h
  obtain ⟨u,rfl,rx⟩:=vals1 r
  cases rx
  have hn:=line63
  rcases hq with hq | hq
  · obtain ⟨its,r',pl,hz⟩:=I.list hq
    have hlen:=r'.length
    exact Calls.call_len_list pl.isList (by simp only [List.size_toArray] <;> omega) ⟨.int ys.length,H,I.tok _,⟨s.toks + 1,by rw [List.size_toArray,hlen]⟩,q⟩
  · obtain ⟨its,r',pl,hz⟩:=I.tuple hq
    have hlen:=r'.length
    exact len_tuple pl (by simp only [List.size_toArray] <;> omega) ⟨.int ys.length,H,I.tok _,⟨s.toks + 1,by rw [List.size_toArray,hlen]⟩,q⟩
theorem call_len_str:CallR X (.builtin "len") (fun xs H Q=>∃ z,xs = [.str z] ∧ z.length ≤ sizeLine ∧ Q (.int z.length) H):=by
  intro pins s σ H xs us Q I r h
  obtain ⟨z,rfl,hz,q⟩:=h
  obtain ⟨u,rfl,t,rfl⟩:=vals1 r
  have hn:=line63
  exact len_str (by omega) ⟨.int z.length,H,I.tok _,⟨_,rfl⟩,q⟩
theorem call_list_of:CallR X (.type "list") (fun xs H Q=>∃ p ys,xs = [.ref p] ∧ (SqL X.K H p ys ∨ SqT X.K H p ys) ∧ ∀ l,H l = none → Q (.ref l) (upd H l (.lst ys))):=by
  intro pins s σ H xs us Q I r h
  obtain ⟨p,ys,rfl,hq,q⟩:=h
  obtain ⟨u,rfl,rx⟩:=vals1 r
  cases rx
  have fin:∀ (its:List Value),Vals ys its → ys.length ≤ sizeLine → ∀ (h':Heap) (c':Nat),(∀ b o',s.heap.get? b = some o' → h'.get? b = some o') →
      h'.get? s.heap.objs.size = some { cls:=.type "list",dict:=none,data:=.seq its.toArray c',slots:=#[] } → EP X pins σ Q (.ref s.heap.objs.size) { s with heap:=h' }:=fun its r' hz h' c' kp e =>
    ⟨.ref s.heap.objs.size,_,I.laid (t':=s.toks) kp (Nat.le_refl _) (show ObjOk X.prog X.w _ h' _ (.lst ys) from ⟨hz,its,c',r',e⟩),rfl,q _ (I.hok.fresh (Nat.le_refl _))⟩
  rcases hq with hq | hq
  · obtain ⟨its,r',pl,hz⟩:=I.list hq
    have hlen:=r'.length
    obtain ⟨o,ho,hc,n,hd⟩:=pl.isList
    exact call_list_seq p (.inl rfl) ho hc hd (fun h' c' kp e=>fin its r' hz h' c' kp e) (by simp only [List.size_toArray] <;> omega)
  · obtain ⟨its,r',pl,hz⟩:=I.tuple hq
    have hlen:=r'.length
    obtain ⟨o,ho,hc,n,hd⟩:=pl
    exact call_list_seq p (.inr rfl) ho hc hd (fun h' c' kp e=>fin its r' hz h' c' kp e) (by simp only [List.size_toArray] <;> omega)
theorem call_tuple_of:CallR X (.type "tuple") (fun xs H Q=>∃ p ys,xs = [.ref p] ∧ ((SqL X.K H p ys ∧ ∀ l,H l = none → Q (.ref l) (upd H l (.tup ys))) ∨ (SqT X.K H p ys ∧ Q (.ref p) H))):=by
  intro pins s σ H xs us Q I r h
  obtain ⟨p,ys,rfl,h⟩:=h
  obtain ⟨u,rfl,rx⟩:=vals1 r
  cases rx
  rcases h with ⟨hq,q⟩ | ⟨hq,q⟩
  · obtain ⟨its,r',pl,hz⟩:=I.list hq
    have hlen:=r'.length
    refine call_tuple_list pl.isList (fun h' kp=>?_) (by simp only [List.size_toArray] <;> omega)
    have I1:Inv X pins σ H { s with heap:=h' }:=I.kept (t':=s.toks) kp
    have I2:Inv X pins σ (upd H h'.objs.size (.tup ys)) { s with heap:=h'.push { cls:=.type "tuple",data:=.seq its.toArray } } :=
      I1.laid (t':=s.toks) (fun b o e=>Heap.get?_push_of_some _ e) (Nat.le_refl _) (show ObjOk X.prog X.w _ _ _ (.tup ys) from ⟨hz,its,r',IsTup.new _ _⟩)
    exact ⟨.ref h'.objs.size,_,I2,rfl,q _ (I1.hok.fresh (Nat.le_refl _))⟩
  · obtain ⟨its,r',pl,hz⟩:=I.tuple hq
    exact call_tuple_same pl ⟨.ref p,H,I,rfl,q⟩
def tyV (K:PySem.W.Frag) (T:String) (x:V) (H:Hp):Prop:=match x with
  | .str _=>T = "str"
  | .int _=>T = "int"
  | .ref p=>(T = "list" ∧ ∃ xs,SqL K H p xs) ∨ (T = "tuple" ∧ ∃ o,K.lookup p = some o ∧ o.cls = .type "tuple" ∧ o.dict = none) ∨
      (T = "dict" ∧ ((∃ kvs,H p = some (.dK kvs)) ∨ ∃ kvs,H p = some (.dT kvs))) ∨ (T = "set" ∧ ∃ S n,H p = some (.set S n))
  | _=>False
theorem tyV_is {pins:List (Addr × Obj)} {σ:St} {H:Hp} {s:Shared} {T:String} {x:V} {v:Value} (I:Inv X pins σ H s) (r:RelV x v) (ty:tyV X.K T x H) :
    s.TypeIs v T ∧ ∀ a,v = .ref a → ∃ ob,s.heap.get? a = some ob ∧ ob.dict = none:=by
  cases x with
  | str z =>
    obtain ⟨t,rfl⟩:=r
    cases (show T = "str" from ty)
    exact ⟨typeIs_str s z t,fun _ e=>nomatch e⟩
  | int i =>
    obtain ⟨t,rfl⟩:=r
    cases (show T = "int" from ty)
    exact ⟨typeIs_int s i t,fun _ e=>nomatch e⟩
  | ref p =>
    cases r
    rcases ty with ⟨rfl,xs,hq⟩ | ⟨rfl,o,hk,hc,hd⟩ | ⟨rfl,hk⟩ | ⟨rfl,S,n,hk⟩
    · obtain ⟨its,_,pl,_⟩:=I.list hq
      refine ⟨pl.isList.typeIs,fun a e=>?_⟩
      cases e
      obtain ⟨o,n,e,c,hd,_⟩:=pl
      exact ⟨o,e,hd⟩
    · refine ⟨⟨o,I.kIn p o hk,hc⟩,fun a e=>?_⟩
      cases e
      exact ⟨o,I.kIn _ o hk,hd⟩
    · have z:∃ o,s.heap.get? p = some o ∧ o.ExactDict:=by
        rcases hk with ⟨kvs,hk⟩ | ⟨kvs,hk⟩
        · obtain ⟨_,_,_,_,o,_,_,e,ex,_⟩:=I.hok p _ hk
          exact ⟨o,e,ex⟩
        · obtain ⟨_,_,_,_,o,_,_,e,ex,_⟩:=I.hok p _ hk
          exact ⟨o,e,ex⟩
      obtain ⟨o,e,ex⟩:=z
      refine ⟨⟨o,e,ex.1⟩,fun a e2=>?_⟩
      cases e2
      exact ⟨o,e,ex.2.1⟩
    · obtain ⟨o,_,_,_,e,ex,_⟩:=I.hok p _ hk
      refine ⟨⟨o,e,ex.1⟩,fun a e2=>?_⟩
      cases e2
      exact ⟨o,e,ex.2.1⟩
  | _=>exact False.elim ty
def tBM0 (K:PySem.W.Frag) (T:String) (r:V → List V → Hp → VK → Prop) (to:TE):TE:=fun σ H Q=>to σ H fun x H1=>tyV K T x H1 ∧ r x [] H1 Q
def tBM (K:PySem.W.Frag) (T:String) (r:V → List V → Hp → VK → Prop) (to:TE) (t:TA):TE:=fun σ H Q=>to σ H fun x H1=>tyV K T x H1 ∧ t σ H1 fun xs H2=>r x xs H2 Q
variable {o e:Expr} {es:List Expr} {to:TE} {t:TA} {name:Str} {apos cpos:Pos} {T id:String} {r:V → List V → Hp → VK → Prop}
theorem pe_bm0 (pa:PlainAttrs T) (slot:Slot T name id) (hty:typeOf (.builtin id) = pure (.type "method_descriptor")) (hm:MtR X id r) (ho:PE X o to)
    (hbase:attributeBase o name X.env (eval o X.env) = eval o X.env:=by rfl) (hline:(apos.endLine == cpos.line) = true:=by rfl):PE X (.Call (.Attribute o name apos) [] [] cpos) (tBM0 X.K T r to):=by
  intro pins s σ H Q I h
  refine wpAny_Call_method0_late hbase hline (thn (ho pins s σ H _ I h) fun v s1 ⟨x,H1,I1,r1,ty,q1⟩=>?_)
  obtain ⟨h1,h2⟩:=tyV_is I1 r1 ty
  exact ⟨T,id,pa,slot,hty,h1,h2,Calls.callWith_builtin rfl (PySem.evalArgs_none (hm pins s1 σ H1 x [] v [] Q I1 r1 .nil q1))⟩
theorem pe_bm (pa:PlainAttrs T) (slot:Slot T name id) (hty:typeOf (.builtin id) = pure (.type "method_descriptor")) (hm:MtR X id r) (ho:PE X o to) (ha:PA X (e :: es) t)
    (hbase:attributeBase o name X.env (eval o X.env) = eval o X.env:=by rfl)
    (hfew:((backTo cpos (starEach (e :: es) X.env)).all (fun x=>!x.1) && (backToKw cpos (keywordEach [] X.env)).all (fun x=>x.1.isSome)
      && decide ((e :: es).length + ([]:List Keyword).length + (if ([]:List Keyword).isEmpty then 0 else 1) < 30)) = true:=by rfl)
    (hline:(apos.endLine == cpos.line) = true:=by rfl) (hs:starEach (e :: es) X.env = (false,eval e X.env) :: starEach es X.env:=by rfl) (hplain:(backTo cpos (starEach es X.env)).any (·.1) = false:=by rfl) :
    PE X (.Call (.Attribute o name apos) (e :: es) [] cpos) (tBM X.K T r to t):=by
  intro pins s σ H Q I h
  refine wpAny_Call_method_late hbase hfew hline rfl (thn (ho pins s σ H _ I h) fun v s1 ⟨x,H1,I1,r1,ty,q1⟩=>?_)
  obtain ⟨h1,h2⟩:=tyV_is I1 r1 ty
  refine ⟨T,id,pa,slot,hty,h1,h2,?_⟩
  have hA:=ha cpos pins s1 σ H1 _ I1 q1
  rw [hs] at hA ⊢
  refine Calls.callWith_builtin (by show (false || (backTo cpos (starEach es X.env)).any (·.1)) = false; rw [hplain] <;> rfl) (Calls.evalArgs_plain ?_)
  exact thn hA fun us s2 ⟨vs,H2,I2,r2,q2⟩=>hm pins s2 σ H2 x vs v us Q I2 r1 r2 q2
end
end L2
namespace L2
open PySem PySem.Spec PyProof.Rows
def MtM (X:Cx) (id:String) (r:V → List V → Hp → VK → Prop):Prop :=
  ∀ (pins:List (Addr × Obj)) (s:Shared) (σ:St) (H:Hp) (x:V) (xs:List V) (v:Value) (us:List Value) (Q:VK),Inv X pins σ H s → RelV x v → Vals xs us → r x xs H Q →
    wpAny (model X.prog X.w) X.A (call (.builtin id) (v :: us)) (EP X pins σ Q) X.xe s
theorem Vals.one:∀ {x:V} {us:List Value},Vals [x] us → ∃ u,us = [u] ∧ RelV x u
  | _,_,.cons r .nil=>⟨_,rfl,r⟩
theorem Vals.zero:∀ {us:List Value},Vals [] us → us = []
  | _,.nil=>rfl
theorem Vals.dropLast {xs:List V} {us:List Value} (h:Vals xs us):Vals xs.dropLast us.dropLast:=by
  induction h with
  | nil=>exact .nil
  | cons r t ih =>
    cases t with
    | nil=>exact .nil
    | cons q t'=>exact .cons r ih
theorem Vals.eraseIdx:∀ {xs:List V} {us:List Value} (i:Nat),Vals xs us → Vals (xs.eraseIdx i) (us.eraseIdx i)
  | _,_,_,.nil=>.nil
  | _,_,0,.cons _ t=>t
  | _,_,i + 1,.cons r t=>.cons r (Vals.eraseIdx i t)
theorem erase_last {α:Type} (l:List α):l.eraseIdx (l.length - 1) = l.dropLast:=by
  induction l with
  | nil=>rfl
  | cons a r ih =>
    cases r with
    | nil=>rfl
    | cons b r =>
      have e:(a :: b :: r).length - 1 = ((b :: r).length - 1) + 1:=by
        have h1:(a :: b :: r).length = r.length + 2:=rfl
        have h2:(b :: r).length = r.length + 1:=rfl
        omega
      rw [e,List.eraseIdx_cons_succ,ih]
      all_goals rfl
section
variable {X:Cx} {pins:List (Addr × Obj)} {σ:St} {H:Hp} {s:Shared} {l b:Addr} {xs ys zs:List V}
theorem Inv.lset {its its':List Value} {n:Nat} {f:Array Value → Array Value} {t':Nat} (I:Inv X pins σ H s) (hH:H l = some (.lst xs))
    (e:s.heap.get? l = some { cls:=.type "list",data:=.seq its.toArray n }) (hf:f its.toArray = its'.toArray) (hv:Vals ys its') (hz:ys.length ≤ sizeLine) :
    Inv X pins σ (upd H l (.lst ys)) { s with heap:=s.heap.update l (Obj.mapSeq f),toks:=t' }:=by
  have q:=PySem.IsL.update e f
  rw [hf] at q
  refine I.write (x:=l) (e:=l) (by rw [hH]; exact trivial) (.inl rfl) (fun b' u hb hu=>(Heap.get?_update_other s.heap (Obj.mapSeq f) (Ne.symm hb)).trans hu) ⟨_,q⟩ ?_
  exact ⟨hz,its',_,hv,q⟩
theorem Inv.lnew {its:List Value} {t':Nat} (I:Inv X pins σ H s) (hv:Vals ys its) (hz:ys.length ≤ sizeLine) :
    Inv X pins σ (upd H s.heap.objs.size (.lst ys)) { s with heap:=s.heap.push { cls:=.type "list",data:=.seq its.toArray },toks:=t' } :=
  I.laid (fun _ _ q=>Heap.get?_push_of_some _ q) (Nat.le_refl _) ⟨hz,its,0,hv,Heap.get?_push_size _ rfl⟩
theorem Inv.fresh (I:Inv X pins σ H s):H s.heap.objs.size = none:=I.hok.fresh (Nat.le_refl _)
theorem Inv.lstM (I:Inv X pins σ H s) (hH:H l = some (.lst xs)):xs.length ≤ sizeLine ∧ ∃ (its:List Value) (n:Nat),Vals xs its ∧ xs.length = its.length ∧ s.heap.get? l = some { cls:=.type "list",data:=.seq its.toArray n }:=by
  obtain ⟨z,its,n,r,e⟩:=I.hok l _ hH
  exact ⟨z,its,n,r,r.length,e⟩
theorem notLongL {n:Nat} (h:n ≤ sizeLine):Builtin.List.listTooLong n = false:=by
  unfold Builtin.List.listTooLong
  exact decide_eq_false (by omega)
end
section
variable {X:Cx}
def rAppend:V → List V → Hp → VK → Prop:=fun x vs H Q=>∃ l xs y,x = .ref l ∧ vs = [y] ∧ H l = some (.lst xs) ∧ xs.length < sizeLine ∧ Q .non (upd H l (.lst (xs ++ [y])))
theorem mt_append:MtM X "list.append" rAppend:=by
  intro pins s σ H x vs v us Q I rx rv h
  obtain ⟨l,xs,y,rfl,rfl,hH,hz,q⟩:=h
  cases rx
  obtain ⟨u,rfl,ru⟩:=rv.one
  obtain ⟨z,its,n,r,hl,e⟩:=I.lstM hH
  refine call_meets F.slot_list_append ⟨_,e,rfl⟩ F.entry_list_append (F.args_list_append_2 _ _) (PySem.list_append l its.toArray n u (by rw [List.size_toArray]; omega)) ⟨e,?_⟩
  refine ⟨.non,_,I.lset (its':=its ++ [u]) hH e (by simp) (r.append (.cons ru .nil)) ?_,rfl,q⟩
  rw [List.length_append,List.length_singleton]
  omega
def rExtend:V → List V → Hp → VK → Prop:=fun x vs H Q=>∃ l b xs zs,x = .ref l ∧ vs = [.ref b] ∧ H l = some (.lst xs) ∧ H b = some (.lst zs) ∧ xs.length + zs.length ≤ sizeLine ∧ Q .non (upd H l (.lst (xs ++ zs)))
theorem mt_extend:MtM X "list.extend" rExtend:=by
  intro pins s σ H x vs v us Q I rx rv h
  obtain ⟨l,b,xs,zs,rfl,rfl,hH,hB,hz,q⟩:=h
  cases rx
  obtain ⟨u,rfl,ru⟩:=rv.one
  cases ru
  obtain ⟨z,its,n,r,hl,e⟩:=I.lstM hH
  obtain ⟨z2,its2,n2,r2,hl2,e2⟩:=I.lstM hB
  have hsz:its.toArray.size + its2.toArray.size ≤ sizeLine:=by rw [List.size_toArray,List.size_toArray]; omega
  have hlong:¬ (!its.toArray.isEmpty && Builtin.List.listTooLong (its.toArray.size + its2.toArray.size)) = true:=by
    rw [notLongL hsz,Bool.and_false]
    exact Bool.false_ne_true
  refine call_meets F.slot_list_extend ⟨_,e,rfl⟩ F.entry_list_extend (F.args_list_extend_2 _ _)
    (AutoSeq1.list_extend_list_list_0 l its.toArray n b its2.toArray n2 hlong (by rw [List.size_toArray]; omega) (by omega)) ⟨e,e2,?_⟩
  refine ⟨.non,_,I.lset (its':=its ++ its2) hH e (by simp) (r.append r2) ?_,rfl,q⟩
  rw [List.length_append]
  omega
def rPop:V → List V → Hp → VK → Prop:=fun x vs H Q=>∃ l xs y,x = .ref l ∧ vs = [] ∧ H l = some (.lst xs) ∧ xs[xs.length - 1]? = some y ∧ Q y (upd H l (.lst xs.dropLast))
theorem mt_pop:MtM X "list.pop" rPop:=by
  intro pins s σ H x vs v us Q I rx rv h
  obtain ⟨l,xs,y,rfl,rfl,hH,hy,q⟩:=h
  cases rx
  have hus:=rv.zero
  subst hus
  obtain ⟨z,its,n,r,hl,e⟩:=I.lstM hH
  obtain ⟨u,hu,ru⟩:=r.get hy
  have hy':its.toArray[its.toArray.size - 1]? = some u:=by
    show its.toArray[its.length - 1]? = some u
    rw [← Array.getElem?_toList,← hl]
    exact hu
  refine call_meets F.slot_list_pop ⟨_,e,rfl⟩ F.entry_list_pop (F.args_list_pop_1 _) (MeetsSeq.list_pop_last l its.toArray n u hy' (by rw [List.size_toArray]; omega)) ⟨e,?_⟩
  refine ⟨y,_,I.lset (its':=its.dropLast) hH e ?_ r.dropLast ?_,ru,q⟩
  · show its.toArray.eraseIdxIfInBounds (its.toArray.size - 1) = its.dropLast.toArray
    rw [List.size_toArray,List.eraseIdxIfInBounds_toArray,erase_last]
  · rw [List.length_dropLast]
    omega
def rCat:R2:=fun x y H Q=>∃ l b xs zs,x = .ref l ∧ y = .ref b ∧ H l = some (.lst xs) ∧ H b = some (.lst zs) ∧ xs.length + zs.length ≤ sizeLine ∧ ∀ p,H p = none → Q (.ref p) (upd H p (.lst (xs ++ zs)))
theorem op_cat:OpR X (binaryOp .Add) rCat:=by
  intro pins s σ H x y v u Q I rx ry h
  obtain ⟨l,b,xs,zs,rfl,rfl,hH,hB,hz,q⟩:=h
  cases rx
  cases ry
  obtain ⟨z,its,n,r,hl,e⟩:=I.lstM hH
  obtain ⟨z2,its2,n2,r2,hl2,e2⟩:=I.lstM hB
  refine PySem.P.add_list e e2 ?_ (by rw [List.size_toArray,List.size_toArray]; omega)
  have ea:its.toArray ++ its2.toArray = (its ++ its2).toArray:=by simp
  rw [ea]
  exact ⟨.ref _,_,I.lnew (t':=s.toks) (r.append r2) (by rw [List.length_append]; omega),rfl,q _ I.fresh⟩
end
section
variable {prog:Program} {w:World} {A:Around} {E:Value → Shared → Prop} {s:Shared}
set_option maxRecDepth 100000 in
end
section
variable {X:Cx}
end
end L2
namespace Att
open PySem PySem.W PySem.Calls PyProof.Rows
theorem ints_of_wellAll {P:Params} {h:Heap}:∀ (ns:List Int) (vs:List Value),WellAll P h vs (ns.map WData.int) → IntsAre vs ns:=by
  intro ns
  induction ns with
  | nil =>
    intro vs w
    rw [List.map_nil] at w
    cases w
    exact .nil
  | cons n ns ih =>
    intro vs w
    rw [List.map_cons] at w
    cases w with
    | cons a b =>
      cases a
      exact .cons _ _ (ih _ b)
theorem script_of {l:OpenLaw} {n:Nat} (hn:l.most = some n) {P:Params} {h:Heap} {args:List WData} {vals:List Value}
    (hpre:l.row.toRowW.claim.pre args = true) (hwl:WellAll P h vals args) :
    ∃ a vs ns,vals = [Value.ref a] ∧ args = [WData.list (ns.map WData.int)] ∧ h.get? a = some { cls:=.type "list",data:=.seq vs.toArray } ∧ IntsAre vs ns ∧ ns.length ≤ n:=by
  have hsh:WShape.hasAll [] args [.list .int] = true:=(pre_splitW hpre).1
  have hc:l.pre.holds [] { args:=args } = true:=(pre_splitW hpre).2
  obtain ⟨d,r,rfl,h1,h2⟩:=hasAllW_cons hsh
  obtain rfl:=hasAllW_nil h2
  obtain ⟨xs,rfl,h3⟩:=hasW_list h1
  obtain ⟨ns,rfl⟩:=items_int h3
  have hlen:ns.length ≤ n:=by
    unfold OpenLaw.pre at hc
    have h4:(WTm.not (.lt (.lit (.int (n:Int))) (.len (.arg 0)))).holds [] { args:=[.list (ns.map .int)] } = true:=by
      have h4:=(holds_andW hc).1
      rw [hn] at h4
      exact h4
    have h5:=condW_of h4 (w_not (w_lt w_lit (w_len_list (w_arg rfl))))
    rw [List.length_map] at h5
    refine Nat.le_of_not_lt fun q=>?_
    have q':(n:Int) < ((ns.length:Nat):Int):=by omega
    first
      | (rw [decide_eq_true q'] at h5; exact absurd h5 (by decide))
      | (simp at h5; omega)
  cases hwl with
  | cons w1 w2 =>
    cases w2
    cases w1 with
    | list ho hall=>exact ⟨_,_,ns,rfl,rfl,ho,ints_of_wellAll ns _ hall,hlen⟩
theorem post_true (l:OpenLaw) (args:List WData):l.row.toRowW.claim.post args (.bool true) args = true :=
  postW_of (r:=l.row.toRowW) (X:=(true == true))
    (show WShape.has [] (.bool true) .bool = true by first | rfl | decide | simp [WShape.has,WShape.arms,WShape.armsAll])
    (show (WTm.eq .res (.lit (.bool true))).value [] { args:=args,res:=some (.bool true),after:=args } = some (.bool (true == true)) from w_eq_bool (w_res rfl) w_lit) rfl
theorem attach_call {l:OpenLaw} {n:Nat} {q:Program} {loose:List Str} {XP:(Str → Option Value) → Heap → Prop} {YP:World → Heap → Prop} {d:DefRec}
    (hn:l.most = some n) (hdf:d.params.defaults = [])
    (call:∀ (w:World) (s₀ s₁:Shared) (mg mb:Str → Option Value) (fa:Addr) (o:Obj) (pm cd doc:Value) (a:Addr) (vs:List Value) (ns:List Int),
      Ground q loose [] XP w s₀ mg mb s₁.heap → YP w s₁.heap →
      s₁.heap.get? fa = some o → o.data = .func (docDef d.name d.params d.body d.scope pm cd doc) → s₁.heap.CodeRec cd d.name → mg d.name = some (.ref fa) →
      s₁.heap.get? a = some { cls:=.type "list",data:=.seq vs.toArray } → IntsAre vs ns → ns.length ≤ n → s₁.gens = #[] →
      codeAny (model l.prog w) callerA (.call (.ref fa) ⟨[.ref a],[]⟩) (fun r s'=>r = .ok (.ret (.bool true)) ∧ OldK s₁.heap s'.heap ∧ s'.os = s₁.os ∧ AllBare s'.gens) s₁) :
    WalkO q loose XP YP l.row.toRowW d [] (fun f vs=>PySem.call f vs):=by
  intro w s₀ s₁ mg mb G Y fa o pm cd doc dV kV ho hd hcd hD hmg hg args vals as hpre hlay hrd hwl hlo
  obtain rfl:dV = .none:=Dflts.none hD hdf
  obtain rfl:kV = .none:=Dflts.noKw hD
  obtain ⟨a,vs,ns,rfl,rfl,hobj,hints,hlen⟩:=script_of hn hpre hwl
  refine enter_call (codeAny_mono (call w s₀ s₁ mg mb fa o pm cd doc a vs ns G Y ho (fd_plain hd) hcd hmg hobj hints hlen hg) fun r s' hq=>?_)
  obtain ⟨rfl,h2,h3,h4⟩:=hq
  exact ⟨.inl ⟨.bool true,.bool true,[],rfl,fun _=>rfl,.bool true,post_true l _,fun _=>⟨List.Pairwise.nil,fun _ hm=>(nomatch hm)⟩⟩,h2,h3,h4⟩
section
variable {prog:Program} {w:World} {A:Around} {E:Value → Shared → Prop} {s:Shared} {K:Frag}
end
end Att
namespace L2
open PySem PySem.Spec PyProof.Rows
theorem vals_ints:∀ {vs:List Value} {ns:List Int},IntsAre vs ns → Vals (ns.map V.int) vs
  | _,_,.nil=>.nil
  | _,_,.cons n t h=>.cons ⟨t,rfl⟩ (vals_ints h)
def Only (H:Hp):Prop:=∀ b,H b = none ∨ ∃ o xs,H b = some (.frz o (.lst xs))
theorem law_call {P:Program} {w:World} {K:PySem.W.Frag} {mg mb:Str → Option Value} {CX:CXT} {k:Nat} {fa a:Addr} {fd:FuncData} {x:Str} {sp:Sp} {s₁:Shared} {vs:List Value} {ns:List Int}
    (KX:K.In s₁.heap) (hns:s₁.heap.Ns mainGlobals mg) (hb:s₁.heap.Ns builtinsNs mb) (hbb:∀ x:Str,x ≠ "__name__" → mb x = bootBuiltins x) (hlim:s₁.heap.NoLimit) (hg:s₁.gens = #[])
    (ha:s₁.heap.get? a = some { cls:=.type "list",data:=.seq vs.toArray }) (hi:IntsAre vs ns) (hl:ns.length ≤ sizeLine) (hr:Room k callerA)
    (F:∀ base:Heap,K.In base → base.Ns mainGlobals mg → FnOk P w K mg base CX k fa fd [x] sp) (hbind:∀ (s:Shared) (u:Value),BindsTo s fd ⟨[u],[]⟩ [(x,u)])
    (hsp:∀ H:Hp,Only H → SqL K H a (ns.map V.int) → sp [.ref a] H (fun v _=>v = .bl true) fun _ _ _=>False)
    (hCX:∀ H e s',CX [] H s₁ (fun _ _ _=>False) e s' → False) :
    codeAny (model P w) callerA (.call (.ref fa) ⟨[.ref a],[]⟩) (fun r s'=>r = .ok (.ret (.bool true)) ∧ OldK s₁.heap s'.heap ∧ s'.os = s₁.os ∧ AllBare s'.gens) s₁:=by
  have rv:=vals_ints hi
  have lenV:=hi.length
  have core:∀ H:Hp,Only H → SqL K H a (ns.map V.int) → HOk P w H s₁.heap → (∀ b,H b ≠ none → b = a) → (H a ≠ none → K.lookup a = none) →
      codeAny (model P w) callerA (.call (.ref fa) ⟨[.ref a],[]⟩) (fun r s'=>r = .ok (.ret (.bool true)) ∧ OldK s₁.heap s'.heap ∧ s'.os = s₁.os ∧ AllBare s'.gens) s₁:=by
    intro H hO hS hok hA hK
    have base_of:∀ {b:Addr} {o:Obj},s₁.heap.get? b = some o → H b = none → (hidT s₁.heap H).get? b = some o:=fun e n=>hidT_get e n
    have noA:∀ {b:Addr} {o:Obj} {es:Array DictEntry} {ep:Nat},s₁.heap.get? b = some o → o.data = .dict es ep → H b = none:=fun {b o es ep} e d=>by
      cases q:H b with
      | none=>rfl
      | some u =>
        have e':b = a:=hA b (by rw [q]; simp)
        subst e'
        rw [ha] at e; cases e
        have d':Data.seq vs.toArray _ = Data.dict es ep:=d
        cases d'
    have nsK:∀ {b:Addr} {m:Str → Option Value},s₁.heap.Ns b m → (hidT s₁.heap H).Ns b m:=fun {b m} ⟨o,es,ep,e,d,r⟩=>⟨o,es,ep,base_of e (noA e d),d,r⟩
    have hKb:K.In (hidT s₁.heap H):=fun b o e=>base_of (KX b o e) (by
      cases q:H b with
      | none=>rfl
      | some u =>
        have e':b = a:=hA b (by rw [q]; simp)
        subst e'
        rw [hK (by rw [q]; simp)] at e; cases e)
    have hM:Mod K mg (hidT s₁.heap H):=⟨hKb,nsK hns,⟨mb,nsK hb,hbb⟩,let ⟨mc,h1,h2⟩:=hlim; ⟨mc,nsK h1,h2⟩⟩
    have e0:Env0 P w K mg (hidT s₁.heap H) callerA [] s₁ H:=⟨rfl,hM,fun b o e=>of_hidT e,Nat.le_of_eq (hidT_size _ _),trivial,fun b hb=>absurd (show b ∈ ([]:List Addr) from hb) (by simp),hok,.of_eq hg⟩
    refine codeAny_mono ((F _ hKb (nsK hns)).run callerA [] s₁ H ⟨[.ref a],[]⟩ [.ref a] [.ref a] _ _ hr e0 (hbind s₁ (.ref a)) (.cons rfl .nil) (hsp H hO hS)) fun r s' h=>?_
    cases r with
    | error e=>exact (hCX H e s' h).elim
    | ok fl =>
      cases fl with
      | next=>exact False.elim h
      | brk=>exact False.elim h
      | cont=>exact False.elim h
      | ret u =>
        obtain ⟨v,H',os,bare,un,hok',r',q⟩:=h
        have q':v = .bl true:=q
        subst q'
        obtain rfl:u = Value.bool true:=r'
        refine ⟨rfl,OldK.of_keep fun b o e=>?_,os,bare⟩
        cases q:H b with
        | none=>exact un.keep b o e q (by intro z; exact absurd (show b ∈ ([]:List Addr) from z) (by simp)) (by simp)
        | some u =>
          rcases hO b with z | ⟨ob,xs,z⟩
          · rw [q] at z; cases z
          · have z2:=un.frzs b ob _ z
            obtain ⟨e1,_⟩:=hok b _ z
            obtain ⟨e2,_⟩:=hok' b _ z2
            rw [e] at e1; cases e1
            exact e2
  cases hk:K.lookup a with
  | some o =>
    have e:=KX a o hk
    rw [ha] at e
    cases e
    refine core (fun _=>none) (fun _=>.inl rfl) (.inr ⟨_,vs.toArray,_,hk,rfl,rfl,rfl,by rw [List.size_toArray,lenV]; exact hl,by simpa using rv⟩) (fun b u z=>by have z':(none:Option HO) = some u:=z; cases z') (fun b z=>absurd rfl z) fun z=>absurd rfl z
  | none =>
    refine core (fun b=>if b = a then some (.frz { cls:=.type "list",data:=.seq vs.toArray } (.lst (ns.map V.int))) else none) (fun b=>?_) (.inl (.inr ⟨{ cls:=.type "list",data:=.seq vs.toArray },if_pos rfl⟩)) (fun b u z=>?_) (fun b z=>?_) fun _=>hk
    · by_cases hb:b = a
      · exact .inr ⟨_,_,if_pos hb⟩
      · exact .inl (if_neg hb)
    · by_cases hb:b = a
      · have z':=(if_pos hb).symm.trans z
        cases z'
        subst hb
        exact ⟨ha,by rw [List.length_map]; exact hl,vs,_,rv,ha⟩
      · have z':=(if_neg hb).symm.trans z
        cases z'
    · by_cases hb:b = a
      · exact hb
      · exact absurd (if_neg hb) z
end L2
namespace L2
open PySem PySem.Spec PyProof.Rows
abbrev KOf {K:PySem.W.Frag} {h:Heap} (_:K.In h):PySem.W.Frag:=K
theorem walk_of {l:PySem.W.OpenLaw} {n k:Nat} {q:Program} {loose:List Str} {XP:(Str → Option Value) → Heap → Prop} {YP:World → Heap → Prop} {d:DefRec} {K:Params → PySem.W.Frag} {CX:World → CXT} {sp:World → Sp} {x:Str}
    (hn:l.most = some n) (hn2:n ≤ sizeLine) (hdf:d.params.defaults = []) (hr:Room k callerA)
    (hY:∀ (w:World) (h:Heap),YP w h → (K w.params).In h)
    (F:∀ (w:World) (mg:Str → Option Value) (fa:Addr) (h:Heap),(K w.params).In h → h.Ns mainGlobals mg → mg d.name = some (.ref fa) →
      ∃ fd:FuncData,(∀ (s:Shared) (u:Value),BindsTo s fd ⟨[u],[]⟩ [(x,u)]) ∧
        ∀ base:Heap,(K w.params).In base → base.Ns mainGlobals mg → FnOk l.prog w (K w.params) mg base (CX w) k fa fd [x] (sp w))
    (hsp:∀ (w:World) (H:Hp) (a:Addr) (ns:List Int),ns.length ≤ n → Only H → SqL (K w.params) H a (ns.map V.int) → sp w [.ref a] H (fun v _=>v = .bl true) fun _ _ _=>False)
    (hCX:∀ (w:World) (H:Hp) (s:Shared) (e:Value) (s':Shared),CX w [] H s (fun _ _ _=>False) e s' → False) :
    PySem.W.WalkO q loose XP YP l.row.toRowW d [] (fun f vs=>PySem.call f vs):=by
  refine Att.attach_call hn hdf fun w s₀ s₁ mg mb fa o pm cd doc a vs ns G Y ho hd hcd hmg hobj hints hlen hg=>?_
  have KX:=hY w _ Y
  obtain ⟨fd,hb,hF⟩:=F w mg fa _ KX G.T.g hmg
  exact law_call KX G.T.g G.T.b G.T.builtins G.T.nolimit hg hobj hints (Nat.le_trans hlen hn2) hr hF hb (fun H hO hS=>hsp w H a ns hlen hO hS) fun H e s'=>hCX w H s₁ e s'
end L2
namespace L2
open PySem PySem.Spec PyProof.Rows
def inClass (s:Stmt) (j:Nat):Stmt:=match s with
  | .ClassDef _ _ _ body _ _ _ _ _ _ _=>body.getD j (.Pass ⟨0,0,0,0⟩)
  | _=>.Pass ⟨0,0,0,0⟩
def defArgs (s:Stmt):Arguments:=match s with
  | .FunctionDef _ a _ _ _ _ _ _ _ _=>a
  | _=>{ posonlyargs:=[],args:=[],vararg:=none,kwonlyargs:=[],kw_defaults:=[],kwarg:=none,defaults:=[] }
def defBody (s:Stmt):List Stmt:=match s with
  | .FunctionDef _ _ b _ _ _ _ _ _ _=>b
  | _=>[]
def defScope (s:Stmt):Scope:=match s with
  | .FunctionDef _ _ _ _ _ _ sc _ _ _=>sc
  | _=>{ kind:=.function,names:=[],isGenerator:=false,isCoroutine:=false }
abbrev CX0:CXT:=fun _ _ _ _ _ _=>False
abbrev E0:XK:=fun _ _ _=>False
theorem pass0 {X:Cx}:Passes CX0 X E0:=fun _ _ _ _ _ _ _ h=>h.elim
structure Fun (K:PySem.W.Frag) (x qual:Str) (st:Stmt) (f:Addr) (fd:FuncData):Prop where
  ex:∃ (oc:Value) (od:Option Addr) (kV doc pm:Value) (an:Option Addr) (cdv ct:Value) (osl:Array (Option Value)),
    fd = PySem.W.fnOf x qual (defArgs st) (defBody st) (defScope st) .none kV doc pm an cdv ct ∧ K.lookup f = some ⟨oc,od,.func fd,osl⟩ ∧ PySem.W.codeIn K cdv qual = true
  kp:PySem.W.keepIn K (.ref f) = true
section
variable {P:Program} {w:World} {K:PySem.W.Frag} {mg:Str → Option Value} {base:Heap}
theorem Fun.ok {x qual:Str} {st:Stmt} {f:Addr} {fd:FuncData} {N ps:List Str} {k:Nat} {sp:Sp} (F:Fun K x qual st f fd) (S:FnScope N ps (defScope st)) (len:∀ vs H Q E,sp vs H Q E → vs.length = ps.length)
    (hbody:∀ (cdv:Value) (A:Around) (outer:List Env) (s:Shared) (H:Hp) (vs:List V) (Q:VK) (E:XK),Room k (A.deeper (envOfC qual (defScope st) s.heap.objs.size f cdv)) → sp vs H Q E →
      ∃ t,PSs (cxOf CX0 P w K mg base N qual (defScope st) f cdv A outer s H E).nox (defBody st) t ∧ t { nx:=fun _ H'=>Q .non H',rt:=Q } (start N vs) H):FnOk P w K mg base CX0 (k + 1) f fd ps sp:=by
  obtain ⟨oc,od,kV,doc,pm,an,cdv,ct,osl,rfl,lk,hcd⟩:=F.ex
  refine fn_of lk hcd S len fun A outer s H vs Q E hr hsp=>?_
  obtain ⟨t,h,q⟩:=hbody cdv A outer s H vs Q E hr hsp
  exact ⟨t,h.nox,q⟩
theorem Fun.binds {x qual:Str} {st:Stmt} {f:Addr} {fd:FuncData} {ps:List Str} (F:Fun K x qual st f fd)
    (h:∀ (kV doc pm:Value) (an:Option Addr) (cdv ct:Value) (us:List Value),us.length = ps.length → bindArgs (PySem.W.fnOf x qual (defArgs st) (defBody st) (defScope st) .none kV doc pm an cdv ct) ⟨us,[]⟩ = pure (ps.zip us)):Binds K fd ps []:=by
  obtain ⟨oc,od,kV,doc,pm,an,cdv,ct,osl,rfl,lk,hcd⟩:=F.ex
  exact .all (h kV doc pm an cdv ct)
theorem fun_mk {x qual:Str} {st:Stmt} {f:Addr} {oc:Value} {od an:Option Addr} {osl:Array (Option Value)} {kV doc pm cdv ct:Value} (l:K.lookup f = some ⟨oc,od,.func (PySem.W.fnOf x qual (defArgs st) (defBody st) (defScope st) .none kV doc pm an cdv ct),osl⟩)
    (c:PySem.W.codeIn K cdv qual = true) (k:PySem.W.keepIn K (.ref f) = true):Fun K x qual st f (PySem.W.fnOf x qual (defArgs st) (defBody st) (defScope st) .none kV doc pm an cdv ct):=⟨⟨oc,od,kV,doc,pm,an,cdv,ct,osl,rfl,l,c⟩,k⟩
end
theorem small1000 {n:Nat} (h:n ≤ 1000):n < sizeLine:=Nat.lt_of_le_of_lt h (by decide)
section
variable {X:Cx}
theorem pv (i:Nat) {x:Str} {pos:Pos} (hN:X.N[i]? = some x:=by rfl) (hv:Vis X.env.scope x:=by first | exact Or.inl rfl | exact Or.inr (Or.inl rfl) | exact Or.inr (Or.inr rfl)) (hd:(x == ("__debug__":Str)) = false:=by decide)
    (hcd:(x == ("__classdict__":Str)) = false:=by decide):PE X (.Name x pos) (tVar i):=pe_var hN hv hd hcd
end
theorem iteF {A B:Prop} (h:B):if false = true then A else B:=by
  rw [if_neg Bool.false_ne_true]
  exact h
theorem iteT {A B:Prop} (h:A):if true = true then A else B:=by
  rw [if_pos rfl]
  exact h
theorem ite2 {c A B:Prop} [Decidable c] (h1:c → A) (h2:¬ c → B):if c then A else B:=by
  by_cases h:c
  · rw [if_pos h]
    exact h1 h
  · rw [if_neg h]
    exact h2 h
def Same (H H':Hp):Prop:=∀ b o,H b = some o → H' b = some o
theorem Same.refl (H:Hp):Same H H:=fun _ _ h=>h
theorem Same.trans {H H1 H2:Hp} (a:Same H H1) (b:Same H1 H2):Same H H2:=fun c o h=>b c o (a c o h)
theorem Same.free {H H':Hp} (e:Same H H') {l:Addr} (h:H' l = Option.none):H l = Option.none:=by
  cases q:H l with
  | none=>rfl
  | some o =>
    rw [e l o q] at h
    cases h
theorem Same.seq {K:PySem.W.Frag} {H H':Hp} {a:Addr} {xs:List V} (e:Same H H') (h:SqL K H a xs):SqL K H' a xs:=by
  rcases h with (h | ⟨o,h⟩) | h
  · exact .inl (.inl (e _ _ h))
  · exact .inl (.inr ⟨o,e _ _ h⟩)
  · exact .inr h
end L2
namespace L2
open PySem PySem.Spec PyProof.Rows
section
variable {P:Program} {w:World} {H:Hp} {h:Heap} {a:Addr} {o:HO}
theorem HOk.track (x:HOk P w H h) (hn:H a = none) (new:ObjOk P w (upd H a o) h a o):HOk P w (upd H a o) h:=fun b u e=>by
  by_cases hb:b = a
  · subst hb; rw [upd_same] at e; cases e; exact new
  · rw [upd_ne hb] at e
    exact (x b u e).stay (fun c v _ q=>q) (fun c q=>by rw [upd_ne (ne_of_none q hn)]; exact q) fun c xs q=>by rw [upd_ne (ne_of_none q hn)]; exact q
end
def Its (x:Str):It:=⟨fun i _=>i < x.cps.size,fun i H v H'=>H' = H ∧ ∃ c,x.cps[i]? = some c ∧ v = .str ⟨#[c]⟩,fun i _=>i = x.cps.size⟩
theorem walks_str {prog:Program} {w:World} {A:Around} (hh:A.handled = none) (I:Addr) (x:Str) (t:Tok):Walks prog w A I [I] [I] x.cps.size (SignAt x) (fun i h=>h.IsStrIter I (strIterType x) x t i):=by
  cases ha:x.cps.all (· < 128)
  · have e:strIterType x = "str_iterator":=by simp [strIterType,ha]
    rw [e]; exact Walks.strWide hh I x t
  · have e:strIterType x = "str_ascii_iterator":=by simp [strIterType,ha]
    rw [e]; exact Walks.strAscii hh I x t
theorem turn_str {P:Program} {w:World} {K:PySem.W.Frag} {tg:Expr} (it:Addr) (x:Str) (t:Tok):Turn P w K tg (Its x) [it] it (fun i h=>h.IsStrIter it (strIterType x) x t i) where
  mem:=by simp
  obj:=fun i h st b hb=>by
    have e:b = it:=by simpa using hb
    subst e
    obtain ⟨o,ho,_,hd⟩:=st
    exact ⟨o,ho,fun v q=>by rw [hd] at q; cases q⟩
  keep:=fun i h h' st k=>by
    obtain ⟨o,ho,r⟩:=st
    exact ⟨o,k it (by simp) o ho,r⟩
  item:=by
    intro X hP hw hK hc i pins s σ H E I hf st hg
    subst hP hw hK
    obtain ⟨f0,f1,f2,f3,f4,f5⟩:=hf it (by simp)
    refine (walks_str (I.ok.hd hc) it x t).item i s _ _ hg st fun v h' tk hv st' kk=>?_
    obtain ⟨c,u,hx,rfl⟩:=hv
    have I1:Inv X pins σ H { s with heap:=h',toks:=tk }:=I.turned (fun b o hb e=>kk b o (by simpa using hb) e) f0 f1 f3 f4 f5
    obtain ⟨o,ho,hcl,hd⟩:=id st'
    refine ⟨_,rfl,go_of (s:={ s with heap:=h',toks:=tk }) (n:=strIterType x) ho hcl hd ?_ ⟨.str ⟨#[c]⟩,H,I1,⟨u,rfl⟩,⟨rfl,c,hx,rfl⟩,st',fun b hb=>(hf b hb).1⟩⟩
    unfold strIterType; split <;> decide
  done:=by
    intro X hP hw hK hc i pins s σ H E I hf st hg
    subst hP hw hK
    obtain ⟨f0,f1,f2,f3,f4,f5⟩:=hf it (by simp)
    have hg':i = x.cps.size:=hg
    subst hg'
    exact (walks_str (I.ok.hd hc) it x t).done s _ _ st fun h' tk kk=>⟨rfl,I.turned (fun b o hb e=>kk b o (by simpa using hb) e) f0 f1 f3 f4 f5⟩
  self:=fun A i s Q E st h=>by
    cases ha:x.cps.all (· < 128)
    · have e:strIterType x = "str_iterator":=by simp [strIterType,ha]
      rw [e] at st; exact wpAny_pyIter_striter_wide st h
    · have e:strIterType x = "str_ascii_iterator":=by simp [strIterType,ha]
      rw [e] at st; exact wpAny_pyIter_striter_ascii st h
def iStr (tl:TE):TI:=fun σ H R=>tl σ H fun x H1=>∃ z,x = .str z ∧ R (Its z) H1
theorem pi_str {X:Cx} {tg l:Expr} {tl:TE} (hl:PE X l tl):PI X tg l (iStr tl):=by
  intro pins s σ H R I h
  refine thn (hl pins s σ H _ I h) fun v s1 ⟨x,H1,I1,r1,q1⟩=>?_
  obtain ⟨z,e,q⟩:=q1
  subst e
  obtain ⟨t,rfl⟩:=r1
  refine wpAny_pyIter_strU ?_
  refine ⟨s1.heap.objs.size,[s1.heap.objs.size],_,_,H1,rfl,I1.kept (t':=s1.toks) fun b o e=>Heap.get?_push_of_some _ e,turn_str _ z t,⟨_,Heap.get?_push_size _ rfl,rfl,rfl⟩,fun b hb=>?_,q⟩
  have e:b = s1.heap.objs.size:=by simpa using hb
  subst e
  exact I1.fpOk (Nat.le_refl _) (I1.hok.fresh (Nat.le_refl _))
section
variable {prog:Program} {w:World} {A:Around} {R:Result → Shared → Prop} {s:Shared}
theorem compLoop_go {elt target iter:Expr} {ifs:List Expr} {scope:Scope} {pos:Pos} {it acc:Value} {env:Env} (I:Nat → Shared → Prop)
    (turn:∀ n s,I n s → wpAny (model prog w) A (pyNext it) (fun r s₁=>match r with
      | none=>R (.ok .next) s₁
      | some v=>wpAny (model prog w) A (letOwnedTupleGo target it v) (fun _ s₁'=>wpAny (model prog w) A (assign target env v) (fun _ s₂ =>
          wpAny (model prog w) A (forIn ifs true fun c r=>if r = true then do let ok ← isTrue c env (eval c env); pure (ForInStep.yield ok) else pure (ForInStep.yield r)) (fun ok s₃ =>
            if ok = true then wpAny (model prog w) A (eval elt env) (fun x s₄ =>
              wpAny (model prog w) A (call (.builtin "list.append") [acc,x]) (fun _ s₅=>∃ m,m < n ∧ I m s₅) (fun _ _=>False) s₄) (fun _ _=>False) s₃
            else ∃ m,m < n ∧ I m s₃) (fun _ _=>False) s₂) (fun _ _=>False) s₁') (fun _ _=>False) s₁) (fun _ _=>False) s)
    (n:Nat) (h:I n s) :
    codeAny (model prog w) A (.compLoop (.ListComp elt [⟨target,iter,ifs,0⟩] scope pos) 0 it acc env) R s:=by
  refine codeAny_loop rfl I (fun n s hI=>?_) n h
  show wpAny _ A ((compTurn (.ListComp elt [⟨target,iter,ifs,0⟩] scope pos) 0 it acc env).onRaise (fun x=>do noteFrame x env; theTreesLotGoes x)) _ _ s
  refine wpAny_noted ?_
  rw [compTurn_list]
  refine wpAny_bind (wpAny_standAt (wpAny_bind (wpAny_mono (turn n s hI) (fun r s₁ h₁=>?_) fun _ _ h'=>h'.elim)))
  cases r with
  | none=>exact wpAny_pure h₁
  | some v =>
    refine wpAny_bind (wpAny_mono h₁ (fun _ s₁' h₁'=>wpAny_bind (wpAny_mono h₁' (fun _ s₂ h₂=>wpAny_bind (wpAny_mono h₂ (fun ok s₃ h₃=>?_) fun _ _ h'=>h'.elim)) fun _ _ h'=>h'.elim)) fun _ _ h'=>h'.elim)
    cases ok with
    | false=>exact wpAny_pure ⟨rfl,h₃⟩
    | true =>
      exact wpAny_bind (wpAny_bind (wpAny_mono h₃ (fun x s₄ h₄=>wpAny_bind (wpAny_mono h₄ (fun _ s₅ h₅=>wpAny_pure (wpAny_pure ⟨rfl,h₅⟩)) fun _ _ h'=>h'.elim)) fun _ _ h'=>h'.elim))
end
def clos (env:Env):List (Str × NameKind) → List (Str × Addr) → List (Str × Addr)
  | [],acc=>acc
  | (n,k) :: r,acc=>clos env r (if k == .free then (n,(env.cells.lookup n).getD 0) :: acc else acc)
theorem closureFor_clos {scope:Scope} {env:Env} (h:∀ y ∈ scope.names,y.2 = .free → ∃ c,env.cells.lookup y.1 = some c):closureFor scope env = pure (clos env scope.names []):=by
  simp only [closureFor]
  suffices hh:∀ (l:List (Str × NameKind)) (acc:List (Str × Addr)),(∀ y ∈ l,y.2 = .free → ∃ c,env.cells.lookup y.1 = some c) →
      (forIn l acc fun x r=>if (x.2 == NameKind.free) = true then do let a ← cellOf env x.1; pure (ForInStep.yield ((x.1,a) :: r)) else pure (ForInStep.yield r):Sem (List (Str × Addr))) = pure (clos env l acc) by
    have:=hh scope.names [] h
    simp only [bind_pure]
    exact this
  intro l
  induction l with
  | nil=>intro acc _; rfl
  | cons y r ih =>
    intro acc hy
    obtain ⟨n,k⟩:=y
    rw [List.forIn_cons]
    cases hk:(k == NameKind.free) with
    | true =>
      obtain ⟨c,hc⟩:=hy (n,k) List.mem_cons_self (by simpa using hk)
      have e1:cellOf env n = pure c:=by unfold cellOf; rw [hc]
      simp only [hk,if_true,e1,pure_bind]
      rw [ih _ fun z hz=>hy z (List.mem_cons_of_mem _ hz)]
      simp only [clos,hk,if_true,hc,Option.getD_some]
    | false =>
      simp only [hk,Bool.false_eq_true,if_false,pure_bind]
      rw [ih _ fun z hz=>hy z (List.mem_cons_of_mem _ hz)]
      simp only [clos,hk,Bool.false_eq_true,if_false]
theorem clos_val {env:Env} {x:Str} {c:Addr}:∀ {l:List (Str × NameKind)} {acc:List (Str × Addr)},(∀ y ∈ l,y.2 = .free → ∃ c,env.cells.lookup y.1 = some c) → (acc.lookup x = some c → env.cells.lookup x = some c) → (clos env l acc).lookup x = some c → env.cells.lookup x = some c
  | [],_,_,ha,e=>ha e
  | (n,k) :: r,acc,hl,ha,e=>by
    refine clos_val (l:=r) (fun z hz=>hl z (List.mem_cons_of_mem _ hz)) (fun q=>?_) e
    cases hk:(k == NameKind.free) with
    | false=>rw [hk] at q; exact ha q
    | true =>
      rw [hk] at q
      obtain ⟨c',hc⟩:=hl (n,k) List.mem_cons_self (by simpa using hk)
      simp only [if_true,hc,Option.getD_some,List.lookup_cons] at q
      cases hx:(x == n) with
      | true=>rw [hx] at q; cases q; rw [show x = n from by simpa using hx]; exact hc
      | false=>rw [hx] at q; exact ha q
theorem clos_mem {env:Env} {x:Str} {c:Addr}:∀ {l:List (Str × NameKind)} {acc:List (Str × Addr)},(clos env l acc).lookup x = some c → acc.lookup x = some c ∨ (x,NameKind.free) ∈ l
  | [],_,e=>.inl e
  | (n,k) :: r,acc,e=>by
    rcases clos_mem (l:=r) e with q | q
    · cases hk:(k == NameKind.free) with
      | false=>rw [hk] at q; exact .inl q
      | true =>
        rw [hk] at q
        simp only [if_true,List.lookup_cons] at q
        cases hx:(x == n) with
        | true =>
          have e1:x = n:=by simpa using hx
          have e2:k = NameKind.free:=by simpa using hk
          subst e1 e2
          exact .inr List.mem_cons_self
        | false=>rw [hx] at q; exact .inl q
    · exact .inr (List.mem_cons_of_mem _ q)
theorem clos_has {env:Env} {x:Str}:∀ {l:List (Str × NameKind)} {acc:List (Str × Addr)},(∃ c,acc.lookup x = some c) ∨ (x,NameKind.free) ∈ l → ∃ c,(clos env l acc).lookup x = some c
  | [],_,h=>h.elim (fun z=>z) fun z=>nomatch z
  | (n,k) :: r,acc,h=>by
    refine clos_has (l:=r) ?_
    rcases h with ⟨c,h⟩ | h
    · refine .inl ?_
      cases hk:(k == NameKind.free) with
      | false=>exact ⟨c,h⟩
      | true =>
        simp only [if_true,List.lookup_cons]
        cases hx:(x == n) with
        | true=>exact ⟨_,rfl⟩
        | false=>exact ⟨c,h⟩
    · rcases List.mem_cons.mp h with h | h
      · cases h
        refine .inl ?_
        rw [if_pos (by rfl),List.lookup_cons]
        exact ⟨_,by rw [show (x == x) = true from by simp]⟩
      · exact .inr h
theorem lookup_mem {α:Type} {x:Str} {k:α}:∀ {l:List (Str × α)},l.lookup x = some k → (x,k) ∈ l
  | (n,z) :: r,e=>by
    rw [List.lookup_cons] at e
    cases hx:(x == n) with
    | true=>rw [hx] at e; cases e; rw [show x = n from by simpa using hx]; exact List.mem_cons_self
    | false=>rw [hx] at e; exact List.mem_cons_of_mem _ (lookup_mem e)
theorem relab_one (env:Env) (n:Str) (z:NameKind):∃ z',(if (z == NameKind.free && env.scope.kind == .function && env.kindOf n == some .cell) = true then (n,NameKind.cell) else (n,z)) = (n,z') ∧ (z' = z ∨ (z = .free ∧ z' = .cell)):=by
  by_cases hc:(z == NameKind.free && env.scope.kind == .function && env.kindOf n == some .cell) = true
  · rw [if_pos hc]
    simp only [Bool.and_eq_true] at hc
    exact ⟨_,rfl,.inr ⟨by simpa using hc.1.1,rfl⟩⟩
  · rw [if_neg hc]; exact ⟨_,rfl,.inl rfl⟩
theorem relabel_kind {env:Env} {x:Str}:∀ {l:List (Str × NameKind)} {k:NameKind},l.lookup x = some k →
    ((l.map fun (n,k)=>if (k == NameKind.free && env.scope.kind == .function && env.kindOf n == some .cell) then (n,NameKind.cell) else (n,k)).lookup x = some k) ∨
    (k = .free ∧ (l.map fun (n,k)=>if (k == NameKind.free && env.scope.kind == .function && env.kindOf n == some .cell) then (n,NameKind.cell) else (n,k)).lookup x = some .cell)
  | (n,z) :: r,k,e=>by
    obtain ⟨z',e1,e2⟩:=relab_one env n z
    have ih:=fun h=>relabel_kind (env:=env) (x:=x) (l:=r) (k:=k) h
    rw [List.lookup_cons] at e
    rw [List.map_cons]
    dsimp only
    rw [e1,List.lookup_cons]
    cases hx:(x == n) with
    | true =>
      rw [hx] at e
      cases e
      rcases e2 with e2 | ⟨e2,e3⟩
      · rw [e2]; exact .inl rfl
      · rw [e3]; exact .inr ⟨e2,rfl⟩
    | false=>rw [hx] at e; exact ih e
theorem relabel_none {env:Env} {x:Str}:∀ {l:List (Str × NameKind)},l.lookup x = none →
    (l.map fun (n,k)=>if (k == NameKind.free && env.scope.kind == .function && env.kindOf n == some .cell) then (n,NameKind.cell) else (n,k)).lookup x = none
  | [],_=>rfl
  | (n,z) :: r,e=>by
    obtain ⟨z',e1,e2⟩:=relab_one env n z
    have ih:=fun h=>relabel_none (env:=env) (x:=x) (l:=r) h
    rw [List.lookup_cons] at e
    rw [List.map_cons]
    dsimp only
    rw [e1,List.lookup_cons]
    cases hx:(x == n) with
    | true=>rw [hx] at e; cases e
    | false=>rw [hx] at e; exact ih e
structure CompScope (N:List Str) (osc scope:Scope) (own cap:List Str) (ix:List Nat):Prop where
  kind:scope.kind = .function
  cell:∀ y ∈ scope.names,y.2 ≠ .cell
  names:∀ y ∈ scope.names,y.2 = .local → scope.names.lookup y.1 = some .local
  free:∀ y ∈ scope.names,y.2 = .free → y.1 ∈ cap
  ownL:∀ x ∈ own,scope.names.lookup x = some .local
  capL:∀ x ∈ cap,scope.names.lookup x = some .free
  out:∀ x ∈ cap,osc.names.lookup x = some .cell ∨ osc.names.lookup x = some .free
  ixL:ix.map (fun i=>N[i]?) = cap.map some
  nd:(own ++ cap).Nodup
def Cx.comp (X:Cx) (scope:Scope) (own cap:List Str) (C:Addr) (s₀:Shared) (H₀:Hp) (ex:List Addr) (pn:List (Addr × Obj)):Cx :=
  { X with N:=own ++ cap,s₀:=s₀,H₀:=H₀,env:=compEnvC scope (clos X.env scope.names []) C X.env,outer:=X.stack,ex:=ex,fn:=fun x=>own.contains x,pn:=pn,xe:=fun _ _=>False }
def capS (σ:St) (own:List Str) (ix:List Nat):St:=own.map (fun _=>none) ++ ix.map (fun i=>(σ[i]?).join)
section
variable {X:Cx} {pins:List (Addr × Obj)} {σ:St} {H:Hp} {s:Shared} {scope:Scope} {own cap:List Str} {ix:List Nat}
theorem CompScope.has (S:CompScope X.N X.env.scope scope own cap ix) (ok:X.Ok):∀ y ∈ scope.names,y.2 = .free → ∃ c,X.env.cells.lookup y.1 = some c:=fun y hy hf=>ok.has y.1 (S.out y.1 (S.free y hy hf))
theorem Inv.comp (I:Inv X pins σ H s) (S:CompScope X.N X.env.scope scope own cap ix) {fp:List Addr} (hf:∀ b ∈ fp,FpOk X pins H b) (ho:∀ b ∈ fp,∃ o,s.heap.get? b = some o)
    {h₁:Heap} {tk:Nat} {C:Addr} {m:Str → Option Value} (hC:s.heap.objs.size ≤ C) (old:∀ b o,s.heap.get? b = some o → h₁.get? b = some o) (hns:h₁.Ns C m) :
    Inv (X.comp scope own cap C s H fp (X.pn ++ pins)) [] (capS σ own ix) H { s with heap:=h₁,toks:=tk }:=by
  have cv:∀ x c,(clos X.env scope.names []).lookup x = some c → X.env.cells.lookup x = some c:=fun x c e=>clos_val (S.has I.ok) (fun q=>by simp at q) e
  have cc:∀ x c,(clos X.env scope.names []).lookup x = some c → x ∈ cap:=fun x c e=>by
    rcases clos_mem e with q | q
    · cases q
    · exact S.free _ q rfl
  have kk:∀ x,((compEnvC scope (clos X.env scope.names []) C X.env).kindOf x = some .cell ∨ (compEnvC scope (clos X.env scope.names []) C X.env).kindOf x = some .free) → x ∈ cap:=fun x hx=>by
    cases e:scope.names.lookup x with
    | none =>
      have q:=relabel_none (env:=X.env) e
      rcases hx with hx | hx
      · have hx':_ = some NameKind.cell:=hx
        exact nomatch q.symm.trans hx'
      · have hx':_ = some NameKind.free:=hx
        exact nomatch q.symm.trans hx'
    | some k =>
      have nc:k ≠ .cell:=S.cell _ (lookup_mem e)
      rcases relabel_kind (env:=X.env) e with q | ⟨q,_⟩
      · rcases hx with hx | hx
        · have hx':_ = some NameKind.cell:=hx
          exact absurd (Option.some.inj (q.symm.trans hx')) nc
        · have hx':_ = some NameKind.free:=hx
          exact S.free _ (lookup_mem e) (Option.some.inj (q.symm.trans hx'))
      · exact S.free _ (lookup_mem e) q
  have capk:∀ x ∈ cap,(compEnvC scope (clos X.env scope.names []) C X.env).kindOf x = some .cell ∨ (compEnvC scope (clos X.env scope.names []) C X.env).kindOf x = some .free:=fun x hx=>by
    rcases relabel_kind (env:=X.env) (S.capL x hx) with q | ⟨_,q⟩
    · exact .inr q
    · exact .inl q
  have lt:∀ {b:Addr} {o:Obj},s.heap.get? b = some o → b ≠ C:=fun e=>Nat.ne_of_lt (Nat.lt_of_lt_of_le (Heap.lt_size e) hC)
  have hfs:∀ b,b ∈ frs X.stack → b ∈ X.env.locals :: X.fs:=I.stkSub
  refine ⟨⟨I.ok.mod,S.kind,I.ok.glob,I.ok.blt,hC,fun x y c e1 e2=>I.ok.inj x y c (cv x c e1) (cv y c e2),fun x hx=>clos_has (.inr (lookup_mem (S.capL x (kk x hx)))),fun x c hx e=>?_,I.ok.hd,I.ok.frames,.inl rfl,fun b hb=>?_,
    I.bs,Nat.le_trans I.ok.bsz I.sz,fun b o e hb=>?_,fun b hb hb'=>?_,I.stack,I.stkFree⟩,rfl,I.bare,Un.kept old,?_,fun x c e=>?_,I.hok.fresh hC,fun x c e=>I.freeC x c (cv x c e),fun p hp=>?_,I.hok.kept old,?_⟩
  · exfalso
    have h1:x ∈ own:=by simpa [Cx.comp] using hx
    have h2:x ∈ cap:=cc x c e
    exact (List.nodup_append.mp S.nd).2.2 x h1 x h2 rfl
  · obtain ⟨o,e⟩:=ho b hb
    exact ⟨lt e,fun x c q=>(hf b hb).2.2.2.2.1 x c (cv x c q)⟩
  · rcases (hf b hb).2.2.2.1 with z | z
    · exact I.ok.noex b o e z
    · exact absurd (Nat.lt_of_lt_of_le (Heap.lt_size e) (Nat.le_trans I.ok.bsz z)) (Nat.lt_irrefl _)
  · rcases List.mem_cons.mp (hfs b hb') with z | z
    · exact (hf b hb).2.1 z
    · exact (hf b hb).2.2.1 z
  · refine ⟨m,hns,fun i x v e1 e2 _=>?_⟩
    by_cases hi:i < own.length
    · have e3:(capS σ own ix)[i]? = some none:=by
        unfold capS
        rw [List.getElem?_append_left (by simpa using hi),List.getElem?_map]
        rw [List.getElem?_eq_getElem hi]; rfl
      rw [e3] at e2; cases e2
    · have hj:own.length ≤ i:=Nat.not_lt.mp hi
      have e1':cap[i - own.length]? = some x:=by
        have:(own ++ cap)[i]? = some x:=e1
        rwa [List.getElem?_append_right hj] at this
      have e4:(ix.map (fun i=>X.N[i]?))[i - own.length]? = some (some x):=by rw [S.ixL,List.getElem?_map,e1']; rfl
      rw [List.getElem?_map] at e4
      cases q:ix[i - own.length]? with
      | none=>rw [q] at e4; cases e4
      | some j =>
        rw [q] at e4
        have hNj:X.N[j]? = some x:=Option.some.inj e4
        have e5:(σ[j]?).join = some v:=by
          unfold capS at e2
          rw [List.getElem?_append_right (by simpa using hj),List.getElem?_map,List.length_map,q] at e2
          exact Option.some.inj e2
        have e6:σ[j]? = some (some v):=by
          cases r:σ[j]? with
          | none=>rw [r] at e5; cases e5
          | some z=>rw [r] at e5; exact congrArg some e5
        have hx:x ∈ cap:=List.mem_of_getElem? e1'
        obtain ⟨mo,hn,hl⟩:=I.loc
        obtain ⟨u,ru,lu⟩:=hl j x v hNj e6 (.inr (S.out x hx))
        refine ⟨u,ru,.inr ⟨capk x hx,?_⟩⟩
        rcases lu with ⟨kx,_⟩ | ⟨_,c,hc,hcell⟩
        · have kx':X.env.scope.names.lookup x = some .local:=kx
          rcases S.out x hx with z | z
          · exact nomatch kx'.symm.trans z
          · exact nomatch kx'.symm.trans z
        · obtain ⟨c',hc'⟩:=clos_has (env:=X.env) (x:=x) (l:=scope.names) (acc:=[]) (.inr (lookup_mem (S.capL x hx)))
          have:c' = c:=Option.some.inj ((cv x c' hc').symm.trans hc)
          subst this
          obtain ⟨oc,hoc,hdc⟩:=hcell
          exact ⟨c',hc',oc,old _ _ hoc,hdc⟩
  · obtain ⟨v,oc,hoc,hdc⟩:=I.cell x c (cv x c e)
    exact ⟨v,oc,old _ _ hoc,hdc⟩
  · have hp':p ∈ X.pn ++ pins:=by simpa [Cx.comp] using hp
    obtain ⟨q1,q2,q3,q4,q5⟩:=I.pin p hp'
    refine ⟨old _ _ q1,q2,lt q1,fun z=>?_,q5⟩
    rcases List.mem_cons.mp (hfs p.1 z) with y | y
    · exact q3 y
    · exact q4 y
  · show (capS σ own ix).length = (own ++ cap).length
    have:=congrArg List.length S.ixL
    rw [List.length_map,List.length_map] at this
    unfold capS
    rw [List.length_append,List.length_append,List.length_map,List.length_map,this]
end
def PIfs (X:Cx) (ifs:List Expr) (t:TT):Prop :=
  ∀ (pins:List (Addr × Obj)) (s:Shared) (σ:St) (H:Hp) (Q:Bool → Hp → Prop),Inv X pins σ H s → t σ H Q →
    wpAny (model X.prog X.w) X.A (forIn ifs true fun c r=>if r = true then do let ok ← isTrue c X.env (eval c X.env); pure (ForInStep.yield ok) else pure (ForInStep.yield r)) (TP X pins σ Q) X.xe s
def tYes:TT:=fun _ H Q=>Q true H
theorem pifs_nil {X:Cx}:PIfs X [] tYes:=fun _ _ _ H _ I h=>wpAny_tests_nil ⟨H,I,h⟩
theorem pifs_one {X:Cx} {c:Expr} {t:TT} (h:PT X c t):PIfs X [c] t:=fun pins s σ H Q I q=>wpAny_tests_one (h pins s σ H Q I q)
def tComp (own:List Str) (ix:List Nat) (wi:TI) (g:TG) (ti:TT) (te:TE):TE:=fun σ H Q=>wi σ H fun J H1 =>
  ∃ W:Nat → Nat → List V → St → Hp → Prop,(∃ m,W 0 m [] (capS σ own ix) H1) ∧ ∀ i m ys σ' H,W i m ys σ' H →
    (J.stop i H ∧ ys.length ≤ sizeLine ∧ ∀ D,H D = none → Q (.ref D) (upd H D (.lst ys))) ∨
    (J.go i H ∧ ∀ x H',J.yld i H x H' → g x σ' H' fun σ2 H2=>ti σ2 H2 fun b H3=>if b = true then te σ2 H3 fun y H4=>ys.length < sizeLine ∧ ∃ m',m' < m ∧ W (i + 1) m' (ys ++ [y]) σ2 H4 else ∃ m',m' < m ∧ W (i + 1) m' ys σ2 H3)
section
variable {X:Cx} {pins:List (Addr × Obj)} {σ:St} {scope:Scope} {own cap:List Str} {ix:List Nat} {tg iter elt:Expr} {ifs:List Expr} {pos:Pos}
set_option maxHeartbeats 4000000 in
theorem comp_block {s:Shared} {H:Hp} {it:Addr} {fp:List Addr} {tn:Nat → Heap → Prop} {J:It} {g:TG} {ti:TT} {te:TE} {Q:VK} {W:Nat → Nat → List V → St → Hp → Prop} {E:Value → Shared → Prop} {RR:Value → Addr → Result → Shared → Prop} (hc:X.calm = true)
    (I:Inv X pins σ H s) (S:CompScope X.N X.env.scope scope own cap ix) (T:Turn X.prog X.w X.K tg J fp it tn) (st:tn 0 s.heap) (hf:∀ b ∈ fp,FpOk X pins H b)
    (hb:∀ (C:Addr) (s₀:Shared) (H₀:Hp) (ex:List Addr) (pn:List (Addr × Obj)),PG (X.comp scope own cap C s₀ H₀ ex pn) tg g ∧ PIfs (X.comp scope own cap C s₀ H₀ ex pn) ifs ti ∧ PE (X.comp scope own cap C s₀ H₀ ex pn) elt te)
    (h0:∃ m,W 0 m [] (capS σ own ix) H)
    (turn:∀ i m ys σ' H,W i m ys σ' H → (J.stop i H ∧ ys.length ≤ sizeLine ∧ ∀ D,H D = none → Q (.ref D) (upd H D (.lst ys))) ∨
      (J.go i H ∧ ∀ x H',J.yld i H x H' → g x σ' H' fun σ2 H2=>ti σ2 H2 fun b H3=>if b = true then te σ2 H3 fun y H4=>ys.length < sizeLine ∧ ∃ m',m' < m ∧ W (i + 1) m' (ys ++ [y]) σ2 H4 else ∃ m',m' < m ∧ W (i + 1) m' ys σ2 H3))
    (hRR:∀ (D C:Addr) (oC:Obj) (m:Str → Option Value) (H':Hp) (s':Shared),s'.heap.get? C = some oC → s'.heap.Ns C m → C ≠ X.env.locals → (X.s₀.heap.objs.size ≤ C) → (∀ x c,X.env.cells.lookup x = some c → c ≠ C) → (∀ p ∈ X.pn ++ pins,p.1 ≠ C) → C ∉ X.fs → H' C = none →
      Inv X pins σ H' s' → Q (.ref D) H' → RR (.ref D) C (.ok .next) s') :
    wpAny (model X.prog X.w) X.A (newList []) (fun acc s₃=>wpAny (model X.prog X.w) X.A (newFunctionEnv scope X.env.globals (clos X.env scope.names []) [] X.env.qual none .none (some X.env)) (fun cenv s₄ =>
      codeAny (model X.prog X.w) X.A (.compStart (.ListComp elt [⟨tg,iter,ifs,0⟩] scope pos) 0 (.ref it) acc { cenv with scope:=relabel scope X.env }) (RR acc cenv.locals) s₄) E s₃) E s:=by
  refine wpAny_newObj_type (wpAny_newFunctionEnv S.cell (by intro y hy; simp at hy) (fun h₁ hns₁ hsb₁=>?_) S.kind)
  dsimp only at hns₁ hsb₁ ⊢
  generalize hH2:s.heap.push { cls:=.type "list",dict:=none,data:=.seq ([]:List Value).toArray } = HH at hns₁ hsb₁ ⊢
  generalize hCn:HH.objs.size = C at hns₁ hsb₁ ⊢
  generalize hDn:s.heap.objs.size = D
  have hC:C = D + 1:=by rw [← hCn,← hH2,Heap.size_push,hDn]
  have hDC:D ≠ C:=by rw [hC]; exact Nat.ne_of_lt (Nat.lt_succ_self _)
  have below:∀ b,b < s.heap.objs.size → b ≠ C ∧ b ≠ D:=fun b hb=>by rw [hDn] at hb; exact ⟨by rw [hC]; exact Nat.ne_of_lt (Nat.lt_succ_of_lt hb),Nat.ne_of_lt hb⟩
  have old:∀ b o,s.heap.get? b = some o → h₁.get? b = some o:=fun b o e=>hsb₁.extBut b o (below b (Heap.lt_size e)).1 (Heap.get?_push_of_some _ (hH2 ▸ Heap.get?_push_of_some _ e))
  have hacc:h₁.get? D = some { cls:=.type "list",data:=.seq ([]:List Value).toArray 0 }:=hsb₁.extBut _ _ hDC (Heap.get?_push_of_some _ (by rw [← hH2,← hDn]; exact Heap.get?_push_size _ rfl))
  have hCs:s.heap.objs.size ≤ C:=by rw [hDn,hC]; exact Nat.le_succ _
  have hDs:s.heap.objs.size ≤ D:=Nat.le_of_eq hDn
  have hDf:D ∉ fp:=fun hm=>by
    obtain ⟨o,e,_⟩:=T.obj _ _ st D hm
    exact (below D (Heap.lt_size e)).2 rfl
  have hD0:H D = none:=I.hok.fresh hDs
  obtain ⟨gG,gI,gE⟩:=hb C s H fp (X.pn ++ pins)
  have I0:∀ tk,Inv (X.comp scope own cap C s H fp (X.pn ++ pins)) [] (capS σ own ix) H { s with heap:=h₁,toks:=tk }:=fun tk=>I.comp S hf (fun b hb=>(T.obj _ _ st b hb).imp fun o e=>e.1) hCs old hns₁
  have cvX:∀ x c,(X.comp scope own cap C s H fp (X.pn ++ pins)).env.cells.lookup x = some c → X.env.cells.lookup x = some c:=fun x c e=>clos_val (S.has I.ok) (fun q=>by simp at q) e
  have cellLt:∀ x c,X.env.cells.lookup x = some c → c < s.heap.objs.size:=fun x c e=>by obtain ⟨v,q⟩:=I.cell x c e; exact q.lt
  have frsLt:∀ b ∈ frs X.stack,b < s.heap.objs.size:=fun b hb=>by
    rcases List.mem_cons.mp (I.stkSub b hb) with z | z
    · rw [z]; exact I.lt
    · obtain ⟨_,o,ho,_⟩:=I.funs.mem z
      exact Heap.lt_size ho
  have fpB:∀ (H':Hp) (ps:List (Addr × Obj)),(∀ p ∈ ps,p.1 = D) → (∀ b ∈ fp,H' b = none) → ∀ b ∈ fp,FpOk (X.comp scope own cap C s H fp (X.pn ++ pins)) ps H' b:=fun H' ps hps hn b hb=>by
    obtain ⟨o,e,_⟩:=T.obj _ _ st b hb
    obtain ⟨f0,f1,f2,f3,f4,f5⟩:=hf b hb
    refine ⟨hn b hb,(below b (Heap.lt_size e)).1,fun z=>?_,.inl hb,fun x c q=>f4 x c (cvX x c q),fun p hp=>?_⟩
    · rcases List.mem_cons.mp (I.stkSub b z) with y | y
      · exact f1 y
      · exact f2 y
    · rcases List.mem_append.mp hp with z | z
      · exact f5 p z
      · intro y
        exact hDf (by rw [← hps p z,y]; exact hb)
  have pinD:∀ {H':Hp} {σ':St} {s':Shared} {o:Obj},Inv (X.comp scope own cap C s H fp (X.pn ++ pins)) [] σ' H' s' → s'.heap.get? D = some o → (∀ v,o.data ≠ .cell v) → H' D = none → Inv (X.comp scope own cap C s H fp (X.pn ++ pins)) [(D,o)] σ' H' s':=fun {H' σ' s' o} I' e hd hn =>
    I'.pins_of fun p hp=>by
      have e1:p = (D,o):=by simpa using hp
      subst e1
      exact ⟨e,hn,hDC,fun z=>Nat.lt_irrefl _ (Nat.lt_of_lt_of_le (frsLt D z) hDs),hd⟩
  have loop:∀ s₃:Shared,s₃ = { s with heap:=h₁,toks:=s.toks + ([]:List (Str × Value)).length } →
      codeAny (model X.prog X.w) X.A (.compLoop (.ListComp elt [⟨tg,iter,ifs,0⟩] scope pos) 0 (.ref it) (.ref D) (compEnvC scope (clos X.env scope.names []) C X.env)) (RR (.ref D) C) s₃:=by
    rintro s₃ rfl
    obtain ⟨m0,w0⟩:=h0
    refine compLoop_go (fun n s'=>∃ i ys σ' H',Inv (X.comp scope own cap C s H fp (X.pn ++ pins)) [] σ' H' s' ∧ tn i s'.heap ∧ (∀ b ∈ fp,H' b = none) ∧ H' D = none ∧
      (∃ (its:List Value) (k:Nat),Vals ys its ∧ s'.heap.get? D = some { cls:=.type "list",data:=.seq its.toArray k }) ∧ ys.length ≤ sizeLine ∧ W i n ys σ' H') ?_ m0
      ⟨0,[],_,H,I0 _,T.keep _ _ _ st fun b _ o e=>old b o e,fun b hb=>(hf b hb).1,hD0,⟨[],0,.nil,hacc⟩,Nat.zero_le _,w0⟩
    rintro n s' ⟨i,ys,σ',H',I',st',fr',hD',⟨its,k,hv,hDo⟩,hyl,w'⟩
    have ID:=pinD I' hDo (fun v q=>nomatch q) hD'
    rcases turn i n ys σ' H' w' with ⟨stop,hz,q⟩ | ⟨go,step⟩
    · refine thn (T.done (X.comp scope own cap C s H fp (X.pn ++ pins)) rfl rfl rfl hc i [(D,_)] s' σ' H' _ ID (fpB H' _ (fun p hp=>by rw [List.mem_singleton.mp hp]) fr') st' stop) fun r s'' ⟨hr,I2⟩=>?_
      subst hr
      show RR (.ref D) C (.ok .next) s''
      have hDo2:s''.heap.get? D = some { cls:=.type "list",data:=.seq its.toArray k }:=(I2.pin (D,_) (List.mem_append_right _ (List.mem_singleton.mpr rfl))).1
      obtain ⟨m2,hn2,_⟩:=I2.loc
      obtain ⟨oC,es,ep,hoC,_⟩:=id hn2
      have hok2:HOk X.prog X.w (upd H' D (.lst ys)) s''.heap:=I2.hok.track hD' ⟨hyl,its,k,hv,hDo2⟩
      have un:Un (frs X.stack) fp H (upd H' D (.lst ys)) s.heap s''.heap:=by
        have u0:Un (frs X.stack) fp H H' s.heap s''.heap:=I2.base
        refine ⟨u0.keep,u0.slot,fun b o e hn hx=>?_,u0.there,fun b xs e=>?_,fun b o u e=>?_,fun b ps e=>?_⟩
        · rw [upd_ne (below b (Heap.lt_size e)).2]; exact u0.free b o e hn hx
        · rw [upd_ne (ne_of_none (u0.tups b xs e) hD')]; exact u0.tups b xs e
        · rw [upd_ne (ne_of_none (u0.frzs b o u e) hD')]; exact u0.frzs b o u e
        · obtain ⟨more,e'⟩:=u0.tbls b ps e
          exact ⟨more,by rw [upd_ne (ne_of_none e' hD')]; exact e'⟩
      have IX:Inv X pins σ (upd H' D (.lst ys)) s'':=I.call' (ch:=fp) I2.os un hok2 I2.bare fun b hb=>⟨(hf b hb).2.2.2.1,(hf b hb).2.1,(hf b hb).2.2.2.2.1,(hf b hb).2.2.2.2.2⟩
      refine hRR D C oC m2 _ s'' hoC hn2 ?_ ?_ (fun x c e z=>?_) (fun p hp z=>?_) (fun z=>?_) ?_ IX (q D hD')
      · exact fun z=>Nat.lt_irrefl _ (Nat.lt_of_lt_of_le I.lt (by rw [← z]; exact hCs))
      · exact Nat.le_trans I.sz hCs
      · exact Nat.lt_irrefl _ (Nat.lt_of_lt_of_le (cellLt x c e) (by rw [z]; exact hCs))
      · exact Nat.lt_irrefl _ (Nat.lt_of_lt_of_le (Heap.lt_size (I.pin p hp).1) (by rw [z]; exact hCs))
      · obtain ⟨_,o,ho,_⟩:=I.funs.mem z
        exact Nat.lt_irrefl _ (Nat.lt_of_lt_of_le (Heap.lt_size ho) hCs)
      · rw [upd_ne hDC.symm]; exact I2.free
    · refine thn (T.item (X.comp scope own cap C s H fp (X.pn ++ pins)) rfl rfl rfl hc i [(D,_)] s' σ' H' _ ID (fpB H' _ (fun p hp=>by rw [List.mem_singleton.mp hp]) fr') st' go) fun r s4 ⟨u,hr,h4⟩=>?_
      subst hr
      refine thn h4 fun _ s5 ⟨x,H5,I5,r5,y5,st5,fr5⟩=>?_
      have hDp5:=I5.pin (D,_) (List.mem_append_right _ (List.mem_singleton.mpr rfl))
      have I5':=I5.pinned (fpB H5 _ (fun p hp=>by rw [List.mem_singleton.mp hp]) fr5) (T.obj _ _ st5)
      refine thn (gG _ s5 σ' H5 x u _ I5' r5 (step x H5 y5)) fun _ s6 ⟨σ6,H6,I6,q6⟩=>?_
      refine thn (gI _ s6 σ6 H6 _ I6 q6) fun ok s7 ⟨H7,I7,q7⟩=>?_
      have fpK:∀ {σ8:St} {H8:Hp} {s8:Shared},Inv (X.comp scope own cap C s H fp (X.pn ++ pins)) ([(D,({ cls:=.type "list",data:=.seq its.toArray k }:Obj))] ++ pinsAt fp s5.heap) σ8 H8 s8 → tn (i + 1) s8.heap ∧ (∀ b ∈ fp,H8 b = none):=fun {σ8 H8 s8} I8=>by
        refine ⟨T.keep _ _ _ st5 fun b hb o e=>(I8.pin (b,o) (List.mem_append_right _ (List.mem_append_right _ (mem_pinsAt hb e)))).1,fun b hb=>?_⟩
        obtain ⟨o,e,d⟩:=T.obj _ _ st5 b hb
        exact (I8.pin (b,o) (List.mem_append_right _ (List.mem_append_right _ (mem_pinsAt hb e)))).2.1
      have dK:∀ {σ8:St} {H8:Hp} {s8:Shared},Inv (X.comp scope own cap C s H fp (X.pn ++ pins)) ([(D,({ cls:=.type "list",data:=.seq its.toArray k }:Obj))] ++ pinsAt fp s5.heap) σ8 H8 s8 → s8.heap.get? D = some { cls:=.type "list",data:=.seq its.toArray k } ∧ H8 D = none:=fun {σ8 H8 s8} I8=>by
        have z:=I8.pin (D,_) (List.mem_append_right _ (List.mem_append_left _ (List.mem_singleton.mpr rfl)))
        exact ⟨z.1,z.2.1⟩
      cases ok with
      | false =>
        obtain ⟨m',hm,w7⟩:=q7
        obtain ⟨st7,fr7⟩:=fpK I7
        obtain ⟨hD7,hn7⟩:=dK I7
        exact ⟨m',hm,i + 1,ys,σ6,H7,I7.pins_of (fun p hp=>nomatch hp),st7,fr7,hn7,⟨its,k,hv,hD7⟩,hyl,w7⟩
      | true =>
        refine thn (gE _ s7 σ6 H7 _ I7 q7) fun xv s8 ⟨y,H8,I8,r8,hl8,m',hm,w8⟩=>?_
        obtain ⟨st8,fr8⟩:=fpK I8
        obtain ⟨hD8,hn8⟩:=dK I8
        refine append_at (hsz:=by rw [List.size_toArray,← hv.length]; exact Nat.le_of_lt hl8) hD8 fun h9 hs9 hD9=>?_
        have I9:Inv (X.comp scope own cap C s H fp (X.pn ++ pins)) [] σ6 H8 { s8 with heap:=h9 }:=by
          refine (I8.pins_of (pins':=[]) fun p hp=>nomatch hp).turned (t':=s8.toks) (it:=D) (fun b o hb e=>hs9.extBut b o hb e) hn8 hDC (.inr hDs) (fun x c e z=>?_) (fun p hp z=>?_)
          · exact Nat.lt_irrefl _ (Nat.lt_of_lt_of_le (cellLt x c (cvX x c e)) (by rw [z]; exact hDs))
          · have hp':p ∈ X.pn ++ pins:=by simpa [Cx.comp] using hp
            exact Nat.lt_irrefl _ (Nat.lt_of_lt_of_le (Heap.lt_size (I.pin p hp').1) (by rw [z]; exact hDs))
        refine ⟨m',hm,i + 1,ys ++ [y],σ6,H8,I9,T.keep _ _ _ st8 fun b hb o e=>hs9.extBut b o (fun z=>hDf (by rw [← z]; exact hb)) e,fr8,hn8,⟨its ++ [xv],k + 1,hv.append (.cons r8 .nil),?_⟩,by rw [List.length_append,List.length_singleton]; exact hl8,w8⟩
        rw [hD9,List.push_toArray]
  exact codeAny_compStart_list (loop _ rfl) (T.self _ 0 _ _ _ (T.keep _ _ _ st fun b _ o e=>old b o e) (loop _ rfl))
theorem pe_comp {wi:TI} {g:TG} {ti:TT} {te:TE} (hc:X.calm = true) (S:CompScope X.N X.env.scope scope own cap ix) (hi:PI X tg iter wi)
    (hb:∀ (C:Addr) (s₀:Shared) (H₀:Hp) (ex:List Addr) (pn:List (Addr × Obj)),PG (X.comp scope own cap C s₀ H₀ ex pn) tg g ∧ PIfs (X.comp scope own cap C s₀ H₀ ex pn) ifs ti ∧ PE (X.comp scope own cap C s₀ H₀ ex pn) elt te)
    (hs:∀ x,foldedSetIterable iter X.env x = pure x:=by intro _; rfl):PE X (.ListComp elt [⟨tg,iter,ifs,0⟩] scope pos) (tComp own ix wi g ti te):=by
  intro pins s σ H Q I h
  rw [eval_ListComp]
  refine wpAny_comprehension_free (use:=none) rfl hs (closureFor_clos (S.has I.ok)) S.kind S.names (thn (hi pins s σ H _ I h) fun xv s₁ h₁=>thn h₁ fun itv s₂ h₂=>?_)
  obtain ⟨it,fp,tn,J,H2,e,I2,T,st2,f2,W,h0,turn⟩:=h₂
  subst e
  refine comp_block (Q:=Q) (RR:=fun acc C=>compPost (model X.prog X.w) X.A X.xe none (EP X pins σ Q) acc C) hc I2 S T st2 f2 hb h0 turn ?_
  intro D C oC m H' s' hoC hn h1 h2 h3 h4 h5 h6 I' q
  refine ⟨m,hn,fun h' hs'=>⟨.ref D,H',I'.turned (t':=s'.toks) (it:=C) (fun b o hb e=>hs'.extBut b o hb e) h6 (Ne.symm h1.symm) (.inr h2) h3 h4,rfl,q⟩⟩
theorem ps_setC {wi:TI} {g:TG} {ti:TT} {te:TE} {i:Nat} {y:Str} {py spos:Pos} (hc:X.calm = true) (hN:X.N.Nodup) (hy:X.N[i]? = some y) (hx:Loc X.env.scope y) (S:CompScope X.N X.env.scope scope own cap ix) (hi:PI X tg iter wi)
    (hb:∀ (C:Addr) (s₀:Shared) (H₀:Hp) (ex:List Addr) (pn:List (Addr × Obj)),PG (X.comp scope own cap C s₀ H₀ ex pn) tg g ∧ PIfs (X.comp scope own cap C s₀ H₀ ex pn) ifs ti ∧ PE (X.comp scope own cap C s₀ H₀ ex pn) elt te)
    (hsw:swapsWith (.ListComp elt [⟨tg,iter,ifs,0⟩] scope pos) (some (.Name y py)) spos.line X.env = pure true:=by rfl)
    (hs:∀ x,foldedSetIterable iter X.env x = pure x:=by intro _; rfl) (hf:X.fn y = true ∨ X.env.scope.names.lookup y = some .local:=by first | exact .inl rfl | exact .inr rfl | assumption) :
    PS X (.Assign [.Name y py] (.ListComp elt [⟨tg,iter,ifs,0⟩] scope pos) spos) (tAsg (tComp own ix wi g ti te) (gName i)):=by
  intro pins s σ H D I h
  rw [exec_Assign_Name_used _ _ _ _ hsw]
  refine wpAny_bind (wpAny_standAt (wpAny_bind ?_))
  show wpAny _ X.A (do let _ ← comprehension (.ListComp elt [⟨tg,iter,ifs,0⟩] scope pos) scope X.env _ (newList []) false (eval iter X.env) (some (assign (.Name y py) X.env))) _ _ s
  refine wpAny_bind (wpAny_mono (wpAny_comprehension_free (use:=some (assign (.Name y py) X.env)) (Q:=fun _ s'=>SP X pins D .next s') rfl hs (closureFor_clos (S.has I.ok)) S.kind S.names
    (thn (hi pins s σ H _ I h) fun xv s₁ h₁=>thn h₁ fun itv s₂ h₂=>?_)) (fun _ s' hq=>wpAny_pure (wpAny_pure hq)) fun _ _ e=>e)
  obtain ⟨it,fp,tn,J,H2,e,I2,T,st2,f2,W,h0,turn⟩:=h₂
  subst e
  refine comp_block (Q:=fun x H1=>gName i x σ H1 D.nx) (RR:=fun acc C=>compPost (model X.prog X.w) X.A X.xe (some (assign (.Name y py) X.env)) (fun _ s'=>SP X pins D .next s') acc C) hc I2 S T st2 f2 hb h0 turn ?_
  intro Da C oC m H' s' hoC hn h1 h2 h3 h4 h5 h6 I' q
  have hdc:∀ v,oC.data ≠ .cell v:=fun v z=>by
    obtain ⟨o',es,ep,ho',hd',_⟩:=hn
    rw [hoC] at ho'; cases ho'; rw [hd'] at z; cases z
  have Ip:Inv X (pins ++ [(C,oC)]) σ H' s':=I'.pins_of fun p hp=>by
    rcases List.mem_append.mp hp with z | z
    · exact I'.pin p (List.mem_append_right _ z)
    · have e1:p = (C,oC):=by simpa using z
      subst e1
      exact ⟨hoC,h6,h1,h5,hdc⟩
  show wpAny _ X.A (assign (.Name y py) X.env (.ref Da)) _ _ _
  refine wpAny_assign_Name (store_ok (v:=.ref Da) Ip hN hy hx rfl (fun s2 I3=>?_) hf)
  have pc:=I3.pin (C,oC) (List.mem_append_right _ (List.mem_append_right _ (by simp)))
  obtain ⟨o',es,ep,ho',r'⟩:=hn
  rw [hoC] at ho'; cases ho'
  refine ⟨m,⟨oC,es,ep,pc.1,r'⟩,fun h' hs'=>⟨_,H',(Inv.unpinned I3).turned (t':=s2.toks) (it:=C) (fun b o hb e=>hs'.extBut b o hb e) h6 h1 (.inr h2) h3 h4,q⟩⟩
end
theorem comp_list {K:PySem.W.Frag} {a:Addr} {xs:List V} {x0:Str} {ix:List Nat} {ti:TT} {te:TE} {Q:VK} {σ:St} {H:Hp} (Pv:Nat → List V → Hp → Prop) (h0:Pv 0 [] H) (hl:∀ i ys H,i ≤ xs.length → Pv i ys H → SqL K H a xs)
    (hs:∀ i x ys H (R:List V → Hp → Prop),xs[i]? = some x → Pv i ys H → (∀ ys' H',Pv (i + 1) ys' H' → R ys' H') → ti (some x :: ix.map fun j=>(σ[j]?).join) H fun b H3=>if b = true then te (some x :: ix.map fun j=>(σ[j]?).join) H3 fun y H4=>ys.length < sizeLine ∧ R (ys ++ [y]) H4 else R ys H3)
    (hd:∀ ys H,Pv xs.length ys H → ys.length ≤ sizeLine ∧ ∀ D,H D = none → Q (.ref D) (upd H D (.lst ys))) :
    ∃ W:Nat → Nat → List V → St → Hp → Prop,(∃ m,W 0 m [] (capS σ [x0] ix) H) ∧ ∀ i m ys σ' H,W i m ys σ' H →
      ((Itl K a).stop i H ∧ ys.length ≤ sizeLine ∧ ∀ D,H D = none → Q (.ref D) (upd H D (.lst ys))) ∨
      ((Itl K a).go i H ∧ ∀ x H',(Itl K a).yld i H x H' → gName 0 x σ' H' fun σ2 H2=>ti σ2 H2 fun b H3=>if b = true then te σ2 H3 fun y H4=>ys.length < sizeLine ∧ ∃ m',m' < m ∧ W (i + 1) m' (ys ++ [y]) σ2 H4 else ∃ m',m' < m ∧ W (i + 1) m' ys σ2 H3):=by
  refine ⟨fun i m ys σ' H=>m = xs.length - i ∧ i ≤ xs.length ∧ (∃ o,σ' = o :: ix.map fun j=>(σ[j]?).join) ∧ Pv i ys H,⟨xs.length,by simp,Nat.zero_le _,⟨none,rfl⟩,h0⟩,?_⟩
  rintro i m ys σ' H ⟨rfl,hi,⟨o,rfl⟩,p⟩
  have q:=hl i ys H hi p
  by_cases hlt:i < xs.length
  · refine .inr ⟨⟨xs,xs[i],q,by simp [hlt]⟩,fun x H' y=>?_⟩
    obtain ⟨e,y⟩:=y
    subst e
    exact hs i x ys _ (fun ys' H4=>∃ m',m' < xs.length - i ∧ m' = xs.length - (i + 1) ∧ i + 1 ≤ xs.length ∧ (∃ o',some x :: (ix.map fun j=>(σ[j]?).join) = o' :: ix.map fun j=>(σ[j]?).join) ∧ Pv (i + 1) ys' H4) (y xs q) p
      fun ys' H4 z=>⟨xs.length - (i + 1),by omega,rfl,hlt,⟨_,rfl⟩,z⟩
  · have e:i = xs.length:=by omega
    subst e
    exact .inl ⟨⟨xs,q,Nat.le_refl _⟩,hd ys H p⟩
theorem comp_str {z:Str} {x0:Str} {ix:List Nat} {ti:TT} {te:TE} {Q:VK} {σ:St} {H:Hp} (Pv:Nat → List V → Hp → Prop) (h0:Pv 0 [] H)
    (hs:∀ i c ys H (R:List V → Hp → Prop),z.cps[i]? = some c → Pv i ys H → (∀ ys' H',Pv (i + 1) ys' H' → R ys' H') → ti (some (.str ⟨#[c]⟩) :: ix.map fun j=>(σ[j]?).join) H fun b H3=>if b = true then te (some (.str ⟨#[c]⟩) :: ix.map fun j=>(σ[j]?).join) H3 fun y H4=>ys.length < sizeLine ∧ R (ys ++ [y]) H4 else R ys H3)
    (hd:∀ ys H,Pv z.cps.size ys H → ys.length ≤ sizeLine ∧ ∀ D,H D = none → Q (.ref D) (upd H D (.lst ys))) :
    ∃ W:Nat → Nat → List V → St → Hp → Prop,(∃ m,W 0 m [] (capS σ [x0] ix) H) ∧ ∀ i m ys σ' H,W i m ys σ' H →
      ((Its z).stop i H ∧ ys.length ≤ sizeLine ∧ ∀ D,H D = none → Q (.ref D) (upd H D (.lst ys))) ∨
      ((Its z).go i H ∧ ∀ x H',(Its z).yld i H x H' → gName 0 x σ' H' fun σ2 H2=>ti σ2 H2 fun b H3=>if b = true then te σ2 H3 fun y H4=>ys.length < sizeLine ∧ ∃ m',m' < m ∧ W (i + 1) m' (ys ++ [y]) σ2 H4 else ∃ m',m' < m ∧ W (i + 1) m' ys σ2 H3):=by
  refine ⟨fun i m ys σ' H=>m = z.cps.size - i ∧ i ≤ z.cps.size ∧ (∃ o,σ' = o :: ix.map fun j=>(σ[j]?).join) ∧ Pv i ys H,⟨z.cps.size,by simp,Nat.zero_le _,⟨none,rfl⟩,h0⟩,?_⟩
  rintro i m ys σ' H ⟨rfl,hi,⟨o,rfl⟩,p⟩
  by_cases hlt:i < z.cps.size
  · refine .inr ⟨hlt,fun x H' y=>?_⟩
    obtain ⟨e,c,hc,rfl⟩:=y
    subst e
    exact hs i c ys _ (fun ys' H4=>∃ m',m' < z.cps.size - i ∧ m' = z.cps.size - (i + 1) ∧ i + 1 ≤ z.cps.size ∧ (∃ o',some (V.str ⟨#[c]⟩) :: (ix.map fun j=>(σ[j]?).join) = o' :: ix.map fun j=>(σ[j]?).join) ∧ Pv (i + 1) ys' H4) hc p
      fun ys' H4 q=>⟨z.cps.size - (i + 1),by omega,rfl,hlt,⟨_,rfl⟩,q⟩
  · have e:i = z.cps.size:=by omega
    subst e
    exact .inl ⟨rfl,hd ys H p⟩
theorem comp_range {lo:Int} {n:Nat} {x0:Str} {ix:List Nat} {ti:TT} {te:TE} {Q:VK} {σ:St} {H:Hp} (Pv:Nat → List V → Hp → Prop) (h0:Pv 0 [] H)
    (hs:∀ i ys H (R:List V → Hp → Prop),i < n → Pv i ys H → (∀ ys' H',Pv (i + 1) ys' H' → R ys' H') → ti (some (.int (lo + i)) :: ix.map fun j=>(σ[j]?).join) H fun b H3=>if b = true then te (some (.int (lo + i)) :: ix.map fun j=>(σ[j]?).join) H3 fun y H4=>ys.length < sizeLine ∧ R (ys ++ [y]) H4 else R ys H3)
    (hd:∀ ys H,Pv n ys H → ys.length ≤ sizeLine ∧ ∀ D,H D = none → Q (.ref D) (upd H D (.lst ys))) :
    ∃ W:Nat → Nat → List V → St → Hp → Prop,(∃ m,W 0 m [] (capS σ [x0] ix) H) ∧ ∀ i m ys σ' H,W i m ys σ' H →
      ((Itr lo n).stop i H ∧ ys.length ≤ sizeLine ∧ ∀ D,H D = none → Q (.ref D) (upd H D (.lst ys))) ∨
      ((Itr lo n).go i H ∧ ∀ x H',(Itr lo n).yld i H x H' → gName 0 x σ' H' fun σ2 H2=>ti σ2 H2 fun b H3=>if b = true then te σ2 H3 fun y H4=>ys.length < sizeLine ∧ ∃ m',m' < m ∧ W (i + 1) m' (ys ++ [y]) σ2 H4 else ∃ m',m' < m ∧ W (i + 1) m' ys σ2 H3):=by
  refine ⟨fun i m ys σ' H=>m = n - i ∧ i ≤ n ∧ (∃ o,σ' = o :: ix.map fun j=>(σ[j]?).join) ∧ Pv i ys H,⟨n,by simp,Nat.zero_le _,⟨none,rfl⟩,h0⟩,?_⟩
  rintro i m ys σ' H ⟨rfl,hi,⟨o,rfl⟩,p⟩
  by_cases hlt:i < n
  · refine .inr ⟨hlt,fun x H' y=>?_⟩
    obtain ⟨e,y⟩:=y
    subst e y
    exact hs i ys _ (fun ys' H4=>∃ m',m' < n - i ∧ m' = n - (i + 1) ∧ i + 1 ≤ n ∧ (∃ o',some (V.int (lo + i)) :: (ix.map fun j=>(σ[j]?).join) = o' :: ix.map fun j=>(σ[j]?).join) ∧ Pv (i + 1) ys' H4) hlt p
      fun ys' H4 q=>⟨n - (i + 1),by omega,rfl,hlt,⟨_,rfl⟩,q⟩
  · have e:i = n:=by omega
    subst e
    exact .inl ⟨Nat.le_refl _,hd ys H p⟩
theorem tcomp_list {K:PySem.W.Frag} {a:Addr} {xs:List V} {x0:Str} {ix:List Nat} {wi:TI} {ti:TT} {te:TE} {Q:VK} {σ:St} {H H1:Hp} (hi:∀ R:It → Hp → Prop,R (Itl K a) H1 → wi σ H R) (Pv:Nat → List V → Hp → Prop) (h0:Pv 0 [] H1) (hl:∀ i ys H,i ≤ xs.length → Pv i ys H → SqL K H a xs)
    (hs:∀ i x ys H (R:List V → Hp → Prop),xs[i]? = some x → Pv i ys H → (∀ ys' H',Pv (i + 1) ys' H' → R ys' H') → ti (some x :: ix.map fun j=>(σ[j]?).join) H fun b H3=>if b = true then te (some x :: ix.map fun j=>(σ[j]?).join) H3 fun y H4=>ys.length < sizeLine ∧ R (ys ++ [y]) H4 else R ys H3)
    (hd:∀ ys H,Pv xs.length ys H → ys.length ≤ sizeLine ∧ ∀ D,H D = none → Q (.ref D) (upd H D (.lst ys))):tComp [x0] ix wi (gName 0) ti te σ H Q:=hi _ (comp_list Pv h0 hl hs hd)
theorem tcomp_str {z:Str} {x0:Str} {ix:List Nat} {wi:TI} {ti:TT} {te:TE} {Q:VK} {σ:St} {H H1:Hp} (hi:∀ R:It → Hp → Prop,R (Its z) H1 → wi σ H R) (Pv:Nat → List V → Hp → Prop) (h0:Pv 0 [] H1)
    (hs:∀ i c ys H (R:List V → Hp → Prop),z.cps[i]? = some c → Pv i ys H → (∀ ys' H',Pv (i + 1) ys' H' → R ys' H') → ti (some (.str ⟨#[c]⟩) :: ix.map fun j=>(σ[j]?).join) H fun b H3=>if b = true then te (some (.str ⟨#[c]⟩) :: ix.map fun j=>(σ[j]?).join) H3 fun y H4=>ys.length < sizeLine ∧ R (ys ++ [y]) H4 else R ys H3)
    (hd:∀ ys H,Pv z.cps.size ys H → ys.length ≤ sizeLine ∧ ∀ D,H D = none → Q (.ref D) (upd H D (.lst ys))):tComp [x0] ix wi (gName 0) ti te σ H Q:=hi _ (comp_str Pv h0 hs hd)
theorem tcomp_range {lo:Int} {n:Nat} {x0:Str} {ix:List Nat} {wi:TI} {ti:TT} {te:TE} {Q:VK} {σ:St} {H H1:Hp} (hi:∀ R:It → Hp → Prop,R (Itr lo n) H1 → wi σ H R) (Pv:Nat → List V → Hp → Prop) (h0:Pv 0 [] H1)
    (hs:∀ i ys H (R:List V → Hp → Prop),i < n → Pv i ys H → (∀ ys' H',Pv (i + 1) ys' H' → R ys' H') → ti (some (.int (lo + i)) :: ix.map fun j=>(σ[j]?).join) H fun b H3=>if b = true then te (some (.int (lo + i)) :: ix.map fun j=>(σ[j]?).join) H3 fun y H4=>ys.length < sizeLine ∧ R (ys ++ [y]) H4 else R ys H3)
    (hd:∀ ys H,Pv n ys H → ys.length ≤ sizeLine ∧ ∀ D,H D = none → Q (.ref D) (upd H D (.lst ys))):tComp [x0] ix wi (gName 0) ti te σ H Q:=hi _ (comp_range Pv h0 hs hd)
end L2
namespace L2
open PySem PySem.Spec PyProof.Rows
section
variable {X:Cx}
theorem call_isiT:CallR X (.builtin "isinstance") (fun xs H Q=>∃ x n t b,xs = [x,.ty n] ∧ TyOf X.K H x t ∧ PySem.W.kitOne X.K t (.type n) = some b ∧ Q (.bl b) H):=by
  intro pins s σ H xs us Q I r h
  obtain ⟨x,n,t,b,rfl,ty,e,q⟩:=h
  obtain ⟨u,w',rfl,rx,rc⟩:=vals2 r
  cases (show w' = Value.type n from rc)
  exact isinst_ok I rx ty e fun tk=>⟨.bl b,H,I.tok tk,rfl,q⟩
theorem pe_ty {x:Str} {n:String} {pos:Pos} (hg:Gl X x) (hm:X.mg x = none) (hv:bootBuiltins x = some (.type n)) (hn:x ≠ "__name__":=by decide) (hd:(x == ("__debug__":Str)) = false:=by decide):PE X (.Name x pos) (tC (.ty n)) :=
  pe_bltn (v:=.ty n) hg hm hv rfl hn hd
theorem truth_bools {prog:Program} {w:World} {A:Around} {bs:List Bool} {its:List Value} (r:Vals (bs.map V.bl) its):TruthOf prog w A (fun i v=>its.toArray[i]? = some v) (fun i=>bs.getD i false):=by
  intro i v s Q E hv q
  have hv':its[i]? = some v:=by simpa using hv
  have hl:=r.length
  rw [List.length_map] at hl
  have hi:i < its.length:=(List.getElem?_eq_some_iff.mp hv').1
  have hb:(bs.map V.bl)[i]? = some (.bl (bs.getD i false)):=by
    rw [List.getElem?_map,List.getD_eq_getElem?_getD,List.getElem?_eq_getElem (show i < bs.length by omega)]
    rfl
  obtain ⟨u,hu,ru⟩:=Vals.get r hb
  rw [hv'] at hu
  cases hu
  cases (show v = Value.bool _ from ru)
  exact wpAny_truthy_bool q
theorem range_all (bs:List Bool):(List.range bs.length).all (fun i=>bs.getD i false) = bs.all id:=by
  rw [Bool.eq_iff_iff,List.all_eq_true,List.all_eq_true]
  constructor
  · intro h b hb
    obtain ⟨i,hi,e⟩:=List.mem_iff_getElem.mp hb
    have:=h i (List.mem_range.mpr hi)
    rw [List.getD_eq_getElem?_getD,List.getElem?_eq_getElem hi,e] at this
    exact this
  · intro h i hi
    have hi':=List.mem_range.mp hi
    rw [List.getD_eq_getElem?_getD,List.getElem?_eq_getElem hi']
    exact h _ (List.getElem_mem hi')
theorem range_any (bs:List Bool):(List.range bs.length).any (fun i=>bs.getD i false) = bs.any id:=by
  rw [Bool.eq_iff_iff,List.any_eq_true,List.any_eq_true]
  constructor
  · rintro ⟨i,hi,e⟩
    have hi':=List.mem_range.mp hi
    rw [List.getD_eq_getElem?_getD,List.getElem?_eq_getElem hi'] at e
    exact ⟨_,List.getElem_mem hi',e⟩
  · rintro ⟨b,hb,e⟩
    obtain ⟨i,hi,e'⟩:=List.mem_iff_getElem.mp hb
    refine ⟨i,List.mem_range.mpr hi,?_⟩
    rw [List.getD_eq_getElem?_getD,List.getElem?_eq_getElem hi,e']
    exact e
theorem call_all (hc:X.calm = true):CallR X (.builtin "all") (fun xs H Q=>∃ (p:Addr) (bs:List Bool),xs = [.ref p] ∧ SqL X.K H p (bs.map V.bl) ∧ Q (.bl (bs.all id)) H):=by
  intro pins s σ H xs us Q I r h
  obtain ⟨p,bs,rfl,hq,q⟩:=h
  obtain ⟨u,rfl,rx⟩:=vals1 r
  cases (show u = Value.ref p from rx)
  obtain ⟨its,rv,pl,hz⟩:=I.list hq
  have hlt:p < s.heap.objs.size:=by obtain ⟨_,e,_⟩:=pl.isList; exact Heap.lt_size e
  have hl:=rv.length
  rw [List.length_map] at hl
  refine call_all_walk (wpAny_pyIter_list pl.isList ⟨s.heap.objs.size,_,_,_,_,_,_,rfl,Walks.list (A:=X.A.in1) (show X.A.in1.handled = none from I.ok.hd hc) s.heap.objs.size p (Nat.ne_of_lt hlt) its.toArray,⟨⟨_,Heap.get?_push_size _ rfl,rfl,rfl⟩,pl.isList.push _⟩,truth_bools rv,fun h' tk hk=>?_⟩)
  rw [List.size_toArray,← hl,range_all]
  exact ⟨.bl _,H,I.kept fun b o e=>hk b o (by simpa using Nat.ne_of_lt (Heap.lt_size e)) (Heap.get?_push_of_some _ e),rfl,q⟩
theorem call_any (hc:X.calm = true):CallR X (.builtin "any") (fun xs H Q=>∃ (p:Addr) (bs:List Bool),xs = [.ref p] ∧ SqL X.K H p (bs.map V.bl) ∧ Q (.bl (bs.any id)) H):=by
  intro pins s σ H xs us Q I r h
  obtain ⟨p,bs,rfl,hq,q⟩:=h
  obtain ⟨u,rfl,rx⟩:=vals1 r
  cases (show u = Value.ref p from rx)
  obtain ⟨its,rv,pl,hz⟩:=I.list hq
  have hlt:p < s.heap.objs.size:=by obtain ⟨_,e,_⟩:=pl.isList; exact Heap.lt_size e
  have hl:=rv.length
  rw [List.length_map] at hl
  refine call_any_walk (wpAny_pyIter_list pl.isList ⟨s.heap.objs.size,_,_,_,_,_,_,rfl,Walks.list (A:=X.A.in1) (show X.A.in1.handled = none from I.ok.hd hc) s.heap.objs.size p (Nat.ne_of_lt hlt) its.toArray,⟨⟨_,Heap.get?_push_size _ rfl,rfl,rfl⟩,pl.isList.push _⟩,truth_bools rv,fun h' tk hk=>?_⟩)
  rw [List.size_toArray,← hl,range_any]
  exact ⟨.bl _,H,I.kept fun b o e=>hk b o (by simpa using Nat.ne_of_lt (Heap.lt_size e)) (Heap.get?_push_of_some _ e),rfl,q⟩
def rSlS:V → Option Int → Option Int → Hp → VK → Prop:=fun x lo hi H Q=>∃ z,x = .str z ∧ z.length ≤ sizeLine ∧ Q (.str (Txt.slice z lo hi)) H
end
structure Def (K:PySem.W.Frag) (mg:Str → Option Value) (x:Str) (st:Stmt) (ps:List Str) (f:Addr) (fd:FuncData):Prop where
  F:Fun K x x st f fd
  mg:mg x = some (.ref f)
  b:Binds K fd ps []
theorem atI_int {α:Type} {xs:List α} {i:Int} (h0:0 ≤ i) (h1:i < xs.length):∃ v,v ∈ xs ∧ xs[i.toNat]? = some v ∧ atI xs i = some v:=by
  obtain ⟨n,rfl⟩:=Int.eq_ofNat_of_zero_le h0
  have hn:n < xs.length:=by omega
  exact ⟨xs[n],List.getElem_mem hn,by simp [hn],atI_nat (List.getElem?_eq_getElem hn)⟩
theorem atI_mod {α:Type} {xs:List α} {i m:Int} (h0:0 < m) (h1:m ≤ xs.length):∃ v,v ∈ xs ∧ xs[(i % m).toNat]? = some v ∧ atI xs (i % m) = some v :=
  atI_int (Int.emod_nonneg _ (by omega)) (by have:=Int.emod_lt_of_pos i h0; omega)
end L2
namespace L2
open PySem PySem.Spec PyProof.Rows
mutual
inductive DatV (K:PySem.W.Frag) (H:Hp):V → PyData → Prop
  | non:DatV K H .non .none
  | bl (b:Bool):DatV K H (.bl b) (.bool b)
  | int (i:Int):DatV K H (.int i) (.int i)
  | str (x:Str):DatV K H (.str x) (.str x)
  | lst {a:Addr} {xs:List V} {ds:List PyData}:SqL K H a xs → DatVs K H xs ds → DatV K H (.ref a) (.list ds)
  | tup {a:Addr} {xs:List V} {ds:List PyData}:SqT K H a xs → DatVs K H xs ds → DatV K H (.ref a) (.tuple ds)
inductive DatVs (K:PySem.W.Frag) (H:Hp):List V → List PyData → Prop
  | nil:DatVs K H [] []
  | cons {x:V} {d:PyData} {xs:List V} {ds:List PyData}:DatV K H x d → DatVs K H xs ds → DatVs K H (x :: xs) (d :: ds)
end
theorem DatV.reads {X:Cx} {pins:List (Addr × Obj)} {σ:St} {H:Hp} {s:Shared} (I:Inv X pins σ H s) {v:V} {d:PyData} (h:DatV X.K H v d):∀ u,RelV v u → ∃ as,Reads s.heap u d as :=
  DatV.rec (motive_1:=fun v d _=>∀ u,RelV v u → ∃ as,Reads s.heap u d as) (motive_2:=fun xs ds _=>∀ us,Vals xs us → ∃ as,ReadsAll s.heap us ds as)
    (fun u r=>by cases (show u = Value.none from r); exact ⟨_,.none⟩)
    (fun b u r=>by cases (show u = Value.bool b from r); exact ⟨_,.bool b⟩)
    (fun i u r=>by obtain ⟨t,rfl⟩:=(show ∃ t,u = Value.int i t from r); exact ⟨_,.int i t⟩)
    (fun x u r=>by obtain ⟨t,rfl⟩:=(show ∃ t,u = Value.str x t from r); exact ⟨_,.str x t⟩)
    (fun {a xs ds} hq _ ih u r=>by
      cases (show u = Value.ref a from r)
      obtain ⟨its,rv,pl,_⟩:=I.list hq
      obtain ⟨o,ho,hc,n,hd⟩:=pl.isList
      obtain ⟨as,ra⟩:=ih its rv
      exact ⟨_,.list ho hc hd (by simpa using ra)⟩)
    (fun {a xs ds} hq _ ih u r=>by
      cases (show u = Value.ref a from r)
      obtain ⟨its,rv,pl,_⟩:=I.tuple hq
      obtain ⟨o,ho,hc,n,hd⟩:=pl
      obtain ⟨as,ra⟩:=ih its rv
      exact ⟨_,.tuple ho hc hd (by simpa using ra)⟩)
    (fun us r=>by cases r; exact ⟨_,.nil⟩)
    (fun {x d xs ds} _ _ ih1 ih2 us r=>by
      cases r with
      | cons r1 r2 =>
        obtain ⟨as,ra⟩:=ih1 _ r1
        obtain ⟨bs,rb⟩:=ih2 _ r2
        exact ⟨_,.cons ra rb⟩) h
theorem SqL.same {K:PySem.W.Frag} {H H':Hp} {a:Addr} {xs:List V} (e:Same H H') (h:SqL K H a xs):SqL K H' a xs:=e.seq h
theorem SqT.same {K:PySem.W.Frag} {H H':Hp} {a:Addr} {xs:List V} (e:Same H H') (h:SqT K H a xs):SqT K H' a xs:=by
  rcases h with (h | ⟨o,h⟩) | h
  · exact .inl (.inl (e _ _ h))
  · exact .inl (.inr ⟨o,e _ _ h⟩)
  · exact .inr h
theorem DatV.same {K:PySem.W.Frag} {H H':Hp} (e:Same H H') {v:V} {d:PyData} (h:DatV K H v d):DatV K H' v d :=
  DatV.rec (motive_1:=fun v d _=>DatV K H' v d) (motive_2:=fun xs ds _=>DatVs K H' xs ds) .non .bl .int .str (fun q _ ih=>.lst (q.same e) ih) (fun q _ ih=>.tup (q.same e) ih) .nil (fun _ _ a b=>.cons a b) h
theorem DatVs.same {K:PySem.W.Frag} {H H':Hp} (e:Same H H') {v:List V} {d:List PyData} (h:DatVs K H v d):DatVs K H' v d :=
  DatVs.rec (motive_1:=fun v d _=>DatV K H' v d) (motive_2:=fun xs ds _=>DatVs K H' xs ds) .non .bl .int .str (fun q _ ih=>.lst (q.same e) ih) (fun q _ ih=>.tup (q.same e) ih) .nil (fun _ _ a b=>.cons a b) h
section
variable {X:Cx}
def rEqD (K:PySem.W.Frag) (neg:Bool):R2:=fun x y H Q=>∃ d e,DatV K H x d ∧ DatV K H y e ∧ SeqAt.shaped d = true ∧ SeqAt.shaped e = true ∧ Q (.bl (if neg then !PyData.eqv d e else PyData.eqv d e)) H
theorem op_eqD (hu:X.A.units + 64 < cLine):OpR X (compareOp .Eq) (rEqD X.K false):=by
  intro pins s σ H x y v u Q I rx ry h
  obtain ⟨d,e,hd,he,s1,s2,q⟩:=h
  obtain ⟨as,ra⟩:=hd.reads I v rx
  obtain ⟨bs,rb⟩:=he.reads I u ry
  exact eq_dataH ra rb s1 s2 hu ⟨.bl _,H,I,rfl,q⟩
theorem op_neD (hu:X.A.units + 64 < cLine):OpR X (compareOp .NotEq) (rEqD X.K true):=by
  intro pins s σ H x y v u Q I rx ry h
  obtain ⟨d,e,hd,he,s1,s2,q⟩:=h
  obtain ⟨as,ra⟩:=hd.reads I v rx
  obtain ⟨bs,rb⟩:=he.reads I u ry
  exact ne_dataH ra rb s1 s2 hu ⟨.bl _,H,I,rfl,q⟩
end
end L2
namespace L2
open PySem PySem.Spec PyProof.Rows
section
variable {P:Program} {w:World} {H H':Hp} {h h':Heap} {a:Addr} {o:HO}
theorem ObjOk.there (x:ObjOk P w H h a o):∃ ob,h.get? a = some ob:=by
  cases o with
  | lst xs=>obtain ⟨_,_,_,_,e⟩:=x; exact ⟨_,e⟩
  | tup xs=>obtain ⟨_,_,_,_,e,_⟩:=x; exact ⟨_,e⟩
  | dK kvs=>obtain ⟨_,_,_,_,o,_,_,e,_⟩:=x; exact ⟨_,e⟩
  | dT kvs=>obtain ⟨_,_,_,_,o,_,_,e,_⟩:=x; exact ⟨_,e⟩
  | set S n=>obtain ⟨o,_,_,_,e,_⟩:=x; exact ⟨_,e⟩
  | ins C dx fs=>obtain ⟨_,_,_,e,_⟩:=x; exact ⟨_,e⟩
  | own y=>obtain ⟨_,e⟩:=x; exact ⟨_,e⟩
  | xd fs=>obtain ⟨_,⟨_,_,_,e,_⟩,_⟩:=x; exact ⟨_,e⟩
  | rng lo hi=>obtain ⟨_,_,_,e⟩:=x; exact ⟨_,e⟩
  | frz ob u=>obtain ⟨e,_⟩:=x; exact ⟨_,e⟩
  | tbl ps=>exact ⟨_,(show h.get? a = some _ from x)⟩
  | met f y=>exact ⟨_,(show h.get? a = some _ from x)⟩
  | ext φ=>obtain ⟨_,⟨_,e⟩,_⟩:=x; exact ⟨_,e⟩
end
structure Fly (P:Program) (w:World) (outer:List Env) (H H':Hp) (s:Shared) (ea:Addr) (cls:Value) (s':Shared):Prop where
  os:s'.os = s.os
  bare:AllBare s'.gens
  un:Un (frs outer) [] H H' s.heap s'.heap
  fly:∃ B a0,Heap.FlyingW B outer ea cls a0 s'.heap ∧ HOk P w H' B ∧ (∀ b o,s.heap.get? b = some o → H b = none → b ∉ frs outer → B.get? b = some o) ∧ (∀ b o,s.heap.get? b = some o → b ∉ frs outer → ∃ o',B.get? b = some o')
def CX1 (P:Program) (w:World):CXT:=fun outer H s E e s'=>∃ ea cls H',e = .ref ea ∧ Fly P w outer H H' s ea cls s' ∧ E cls none H'
section
variable {P:Program} {w:World} {outer:List Env} {H H':Hp} {s s':Shared} {ea:Addr} {cls:Value}
theorem Fly.turn {B:Heap} {a0:Value} {h'':Heap} (f:Fly P w outer H H' s ea cls s') (hfl:Heap.FlyingW B outer ea cls a0 s'.heap) (hok:HOk P w H' B) (h3:∀ b o,s.heap.get? b = some o → H b = none → b ∉ frs outer → B.get? b = some o)
    (h4:∀ b o,s.heap.get? b = some o → b ∉ frs outer → ∃ o',B.get? b = some o') (hfl':Heap.FlyingW B outer ea cls a0 h'') (sm:s'.heap.UpToSlots h''):Fly P w outer H H' s ea cls { s' with heap:=h'' }:=by
  have fr:∀ b o',b ∈ frs outer → s'.heap.get? b = some o' → ∃ sl,h''.get? b = some { o' with slots:=sl }:=fun b o' hb e=>by
    obtain ⟨_,o1,e1,d1⟩:=hfl.2.2.1.mem hb
    rw [e] at e1; cases e1
    exact sm b o' e d1
  refine ⟨f.os,f.bare,⟨fun b o e n hb _=>hfl'.1 _ _ (h3 b o e n hb),fun b o e n hb hx=>?_,f.un.free,fun b o e hx=>?_,f.un.tups,f.un.frzs,f.un.tbls⟩,B,a0,hfl',hok,h3,h4⟩
  · obtain ⟨sl,e1⟩:=f.un.slot b o e n hb hx
    obtain ⟨sl',e2⟩:=fr b _ hb e1
    exact ⟨sl',e2⟩
  · by_cases hb:b ∈ frs outer
    · obtain ⟨o',e1⟩:=f.un.there b o e hx
      obtain ⟨sl',e2⟩:=fr b _ hb e1
      exact ⟨_,e2⟩
    · obtain ⟨o',e1⟩:=h4 b o e hb
      exact ⟨o',hfl'.1 _ _ e1⟩
theorem Fly.free (f:Fly P w outer H H' s ea cls s'):H' ea = none:=by
  obtain ⟨B,a0,hfl,hok,_⟩:=f.fly
  cases q:H' ea with
  | none=>rfl
  | some o =>
    obtain ⟨ob,e⟩:=(hok ea o q).there
    rw [hfl.2.1] at e; cases e
theorem Fly.hok (f:Fly P w outer H H' s ea cls s'):HOk P w H' s'.heap:=by
  obtain ⟨B,a0,hfl,hok,_⟩:=f.fly
  exact hok.kept fun b u e=>hfl.1 b u e
theorem Fly.new (f:Fly P w outer H H' s ea cls s'):s.heap.get? ea = none:=by
  obtain ⟨B,a0,hfl,hok,h3,h4⟩:=f.fly
  cases q:s.heap.get? ea with
  | none=>rfl
  | some o =>
    by_cases hb:ea ∈ frs outer
    · obtain ⟨_,o1,e1,d1⟩:=hfl.2.2.1.mem hb
      obtain ⟨_,_,_,oe,vs,T,oT,ts,he,_,hd,_⟩:=hfl
      rw [e1] at he; cases he
      exact absurd hd (d1 vs)
    · obtain ⟨o',e⟩:=h4 ea o q hb
      rw [hfl.2.1] at e; cases e
theorem Fly.at (f:Fly P w outer H H' s ea cls s'):∃ oe vs,s'.heap.get? ea = some oe ∧ oe.cls = cls ∧ oe.data = .fields vs:=by
  obtain ⟨B,a0,hfl,_⟩:=f.fly
  obtain ⟨oe,vs,he,hc,hd,_⟩:=hfl.first
  exact ⟨oe,vs,he,hc,hd⟩
end
structure Own (X:Cx):Prop where
  stack:X.stack = X.env :: X.outer
  frame:X.env.frame = some X.env.locals
  ex:X.ex = []
section
variable {X:Cx} {pins:List (Addr × Obj)} {σ:St} {H H':Hp} {s s':Shared} {ea:Addr} {cls:Value}
theorem Own.frs (O:Own X):frs X.stack = X.env.locals :: X.fs:=by
  rw [O.stack]
  show (X.env :: X.outer).filterMap _ = _
  rw [List.filterMap_cons,O.frame]
  rfl
theorem Inv.old (I:Inv X pins σ H s) {b:Addr} {o:Obj} (e:X.s₀.heap.get? b = some o):b ≠ X.env.locals:=Nat.ne_of_lt (Nat.lt_of_lt_of_le (Heap.lt_size e) I.ok.above)
theorem Inv.oldStk (O:Own X) (I:Inv X pins σ H s) {b:Addr} {o:Obj} (e:X.s₀.heap.get? b = some o) (hb:b ∉ X.fs):b ∉ L2.frs X.stack:=by
  rw [O.frs]
  intro z
  rcases List.mem_cons.mp z with q | q
  · exact I.old e q
  · exact hb q
theorem Fly.on (O:Own X) (I:Inv X pins σ H s) (f:Fly X.prog X.w X.stack H H' s ea cls s') {h'':Heap} (B:Heap) (a0:Value) (hfl:Heap.FlyingW B X.stack ea cls a0 s'.heap) (hok:HOk X.prog X.w H' B)
    (h3:∀ b o,s.heap.get? b = some o → H b = none → b ∉ frs X.stack → B.get? b = some o) (h4:∀ b o,s.heap.get? b = some o → b ∉ frs X.stack → ∃ o',B.get? b = some o') (hfl':Heap.FlyingW B X.outer ea cls a0 h'') (sm:s'.heap.UpToSlots h'') :
    Fly X.prog X.w X.outer X.H₀ H' X.s₀ ea cls { s' with heap:=h'' }:=by
  have nex:∀ b:Addr,b ∉ X.ex:=fun b z=>by rw [O.ex] at z; exact nomatch z
  have fsS:∀ b,b ∈ X.fs → b ∈ frs X.stack:=fun b hb=>by rw [O.frs]; exact List.mem_cons_of_mem _ hb
  have fr:∀ b o',b ∈ X.fs → s'.heap.get? b = some o' → ∃ sl,h''.get? b = some { o' with slots:=sl }:=fun b o' hb e=>by
    obtain ⟨_,o1,e1,d1⟩:=hfl.2.2.1.mem (fsS b hb)
    rw [e] at e1; cases e1
    exact sm b o' e d1
  have k3:∀ b o,X.s₀.heap.get? b = some o → X.H₀ b = none → b ∉ X.fs → B.get? b = some o:=fun b o e n hb=>h3 b o (I.base.keep b o e n hb (nex b)) (I.base.free b o e n (nex b)) (I.oldStk O e hb)
  have k4:∀ b o,X.s₀.heap.get? b = some o → b ∉ X.fs → ∃ o',B.get? b = some o':=fun b o e hb=>by
    obtain ⟨o1,e1⟩:=I.base.there b o e (nex b)
    exact h4 b o1 e1 (I.oldStk O e hb)
  refine ⟨f.os.trans I.os,f.bare,⟨fun b o e n hb _=>hfl'.1 _ _ (k3 b o e n hb),fun b o e n hb _=>?_,fun b o e n _=>?_,fun b o e _=>?_,fun b xs q=>f.un.tups b xs (I.base.tups b xs q),fun b o u q=>f.un.frzs b o u (I.base.frzs b o u q),fun b ps q=>?_⟩,B,a0,hfl',hok,k3,k4⟩
  · obtain ⟨sl,e1⟩:=I.base.slot b o e n hb (nex b)
    obtain ⟨sl1,e2⟩:=f.un.slot b _ e1 (I.base.free b o e n (nex b)) (fsS b hb) (by simp)
    obtain ⟨sl2,e3⟩:=fr b _ hb e2
    exact ⟨sl2,e3⟩
  · obtain ⟨o1,e1⟩:=I.base.there b o e (nex b)
    exact f.un.free b o1 e1 (I.base.free b o e n (nex b)) (by simp)
  · by_cases hb:b ∈ X.fs
    · obtain ⟨o1,e1⟩:=I.base.there b o e (nex b)
      obtain ⟨o2,e2⟩:=f.un.there b o1 e1 (by simp)
      obtain ⟨sl,e3⟩:=fr b _ hb e2
      exact ⟨_,e3⟩
    · obtain ⟨o',e1⟩:=k4 b o e hb
      exact ⟨o',hfl'.1 _ _ e1⟩
  · obtain ⟨m1,e1⟩:=I.base.tbls b ps q
    obtain ⟨m2,e2⟩:=f.un.tbls b _ e1
    exact ⟨m1 ++ m2,by rw [e2,Array.append_assoc]⟩
theorem Inv.hid (I:Inv X pins σ H s):HOk X.prog X.w H (PySem.W.hideAll s.heap (frs X.stack)):=fun a o e=>by
  have out:∀ b u,H b = some u → b ∉ frs X.stack:=fun b u q z=>by rw [I.stkFree b z] at q; cases q
  refine (I.hok a o e).stay (fun b u hb q=>PySem.W.hideAll_get _ q ?_) (fun _ q=>q) fun _ _ q=>q
  rcases hb with rfl | hb
  · exact out _ _ e
  · exact out _ _ hb
theorem Inv.thrown (O:Own X) (I:Inv X pins σ H s) {vs:List Value} {h1 h'':Heap} {a0:Value} (mk:Heap.MadeExcOf s.heap h1 ea cls vs) (hfl':Heap.FlyingW (PySem.W.hideAll s.heap (frs X.stack)) X.outer ea cls a0 h'') (sm:h1.UpToSlots h'') :
    Fly X.prog X.w X.outer X.H₀ H X.s₀ ea cls { s with heap:=h'' }:=by
  have nex:∀ b:Addr,b ∉ X.ex:=fun b z=>by rw [O.ex] at z; exact nomatch z
  have fr:∀ b o1 sl,b ∈ X.fs → X.s₀.heap.get? b = some o1 → s.heap.get? b = some { o1 with slots:=sl } → ∃ sl,h''.get? b = some { o1 with slots:=sl }:=fun b o1 sl hb e0 e=>by
    obtain ⟨_,o2,e2,d2⟩:=I.ok.funs.mem hb
    rw [e0] at e2; cases e2
    obtain ⟨sl',q⟩:=sm b _ (mk.keeps _ _ e) d2
    exact ⟨sl',q⟩
  have k3:∀ b o,X.s₀.heap.get? b = some o → X.H₀ b = none → b ∉ X.fs → (PySem.W.hideAll s.heap (frs X.stack)).get? b = some o:=fun b o e n hb=>PySem.W.hideAll_get _ (I.base.keep b o e n hb (nex b)) (I.oldStk O e hb)
  have k4:∀ b o,X.s₀.heap.get? b = some o → b ∉ X.fs → ∃ o',(PySem.W.hideAll s.heap (frs X.stack)).get? b = some o':=fun b o e hb=>by
    obtain ⟨o1,e1⟩:=I.base.there b o e (nex b)
    exact ⟨o1,PySem.W.hideAll_get _ e1 (I.oldStk O e hb)⟩
  refine ⟨I.os,I.bare,⟨fun b o e n hb _=>hfl'.1 _ _ (k3 b o e n hb),fun b o e n hb _=>?_,fun b o e n _=>I.base.free b o e n (nex b),fun b o e _=>?_,I.base.tups,I.base.frzs,I.base.tbls⟩,_,a0,hfl',I.hid,k3,k4⟩
  · obtain ⟨sl,e1⟩:=I.base.slot b o e n hb (nex b)
    exact fr b o sl hb e e1
  · by_cases hb:b ∈ X.fs
    · obtain ⟨sl,e1⟩:=I.base.slot b o e (I.ok.frf b hb) hb (nex b)
      obtain ⟨sl',q⟩:=fr b o sl hb e e1
      exact ⟨_,q⟩
    · obtain ⟨o',e1⟩:=k4 b o e hb
      exact ⟨o',hfl'.1 _ _ e1⟩
end
def Raises (X:Cx) (E:XK):Prop:=∀ (pins:List (Addr × Obj)) (σ:St) (H:Hp) (s:Shared) (ea:Addr) (cls:Value) (vs:List Value) (h':Heap),Inv X pins σ H s → Heap.MadeExcOf s.heap h' ea cls vs → E cls none H → X.xe (.ref ea) { s with heap:=h' }
section
variable {P:Program} {w:World} {K:PySem.W.Frag} {mg:Str → Option Value} {base:Heap} {N:List Str} {qual:Str} {scope:Scope} {f:Addr} {cd:Value} {A:Around} {outer:List Env} {s:Shared} {H:Hp} {E:XK}
theorem own_def {CX:CXT}:Own (cxOf CX P w K mg base N qual scope f cd A outer s H E):=⟨rfl,rfl,rfl⟩
theorem pass1:Passes (CX1 P w) (cxOf (CX1 P w) P w K mg base N qual scope f cd A outer s H E) E:=by
  intro pins σ H1 s1 e s' I hx
  obtain ⟨ea,cls,H',rfl,fl,hE⟩:=hx
  obtain ⟨B,a0,hfl,hok,h3,h4⟩:=id fl.fly
  show wpAny _ _ (leaving _ _) _ _ _
  exact wpAny_leaves_onW (L:=(cxOf (CX1 P w) P w K mg base N qual scope f cd A outer s H E).env.locals) I.ok.frames rfl hfl fun h'' hfl' sm=>⟨ea,cls,H',rfl,fl.on own_def I B a0 hfl hok h3 h4 hfl' sm,hE⟩
theorem raises1:Raises (cxOf (CX1 P w) P w K mg base N qual scope f cd A outer s H E) E:=by
  intro pins σ H1 s1 ea cls vs h' I mk hE
  show wpAny _ _ (leaving _ _) _ _ _
  have hin:∀ env ∈ (cxOf (CX1 P w) P w K mg base N qual scope f cd A outer s H E).stack,∀ b,env.frame = some b → b ∈ frs (cxOf (CX1 P w) P w K mg base N qual scope f cd A outer s H E).stack:=fun env he b hb=>List.mem_filterMap.mpr ⟨env,he,hb⟩
  exact wpAny_leaves_madeW (s:={ s1 with heap:=h' }) (L:=(cxOf (CX1 P w) P w K mg base N qual scope f cd A outer s H E).env.locals) (base:=PySem.W.hideAll s1.heap (frs (cxOf (CX1 P w) P w K mg base N qual scope f cd A outer s H E).stack)) I.ok.frames rfl
    (fun b o q=>PySem.W.of_hideAll _ q) (PySem.W.funFrames_hide I.stack hin) mk fun h'' t x1 x2 x3 x4=>⟨ea,cls,H1,rfl,I.thrown own_def mk x1 x4,hE⟩
end
theorem passE {P:Program} {w:World} {X:Cx}:Passes (CX1 P w) X E0:=fun _ _ _ _ _ _ _ ⟨_,_,_,_,_,h⟩=>h.elim
structure ExcCls (K:PySem.W.Frag) (mg:Str → Option Value) (x:Str) (C:Addr):Prop where
  mg:mg x = some (.ref C)
  ns:PySem.W.nsIn K mainGlobals x = some (some (.ref C))
  exc:PySem.W.excIn K C [.type "ValueError",.type "Exception",.type "BaseException",.type "object"] "ValueError.__new__" = true
theorem exc_obj {K:PySem.W.Frag} {h:Heap} {C:Addr} {bmB:List Value} {newId:String} (X:K.In h) (q:PySem.W.excIn K C bmB newId = true) :
    ∃ bm N nm qn bs hdct sn sub ab col dd k0 k1 k2 k3 k5 mN,h.get? C = some (excClassObj nm qn C N bs bm hdct sn sub ab col dd k0 k1 k2 k3 k5 newId) ∧ h.Ns N mN ∧ mN "__init__" = none ∧ OwnTail h bmB bm:=by
  unfold PySem.W.excIn at q
  split at q
  · rename_i dd cd sl ho
    split at q
    · rename_i C' bm k0 k1 k2 k3 n k5 hm hs
      simp only [Bool.and_eq_true,beq_iff_eq,Bool.not_eq_true'] at q
      obtain ⟨⟨⟨⟨⟨rfl,rfl⟩,hdel⟩,ht⟩,hok⟩,hni⟩:=q
      obtain ⟨nm,bs,mro,ns,qn,hd,sn,sub,ab,col,del⟩:=cd
      dsimp only at hm hdel hok hni
      subst hm hdel
      have hsl:sl = #[k0,k1,k2,k3,some (.builtin n),k5]:=by
        obtain ⟨l⟩:=sl
        simp only at hs
        rw [hs]
      subst hsl
      exact ⟨bm,ns,nm,qn,bs,hd,sn,sub,ab,col,dd,k0,k1,k2,k3,k5,_,X _ _ ho,.of_isNs (PySem.W.isNs_of_in X hok),PySem.W.nsMap_none_of_in X hok hni,PySem.W.tail_of_in X ht⟩
    · cases q
  · cases q
section
variable {X:Cx} {x:Str} {C:Addr} {np cpos pos:Pos} {e:Expr} {es:List Expr} {t:TA} {E:XK}
def tRaise (C:Addr) (E:XK) (t:TA):TS:=fun _ σ H=>t σ H fun vs H1=>vs.length ≤ sizeLine ∧ E (.ref C) none H1
theorem ps_raise (c:ExcCls X.K X.mg x C) (hc:X.calm = true) (hr:Raises X E) (hg:Gl X x) (ha:PA X (e :: es) t) (hd:(x == ("__debug__":Str)) = false:=by decide)
    (he:starEach (e :: es) X.env = (false,eval e X.env) :: starEach es X.env:=by rfl) (hpl:(backTo cpos (starEach es X.env)).any (·.1) = false:=by rfl):PS X (.Raise (some (.Call (.Name x np) (e :: es) [] cpos)) none pos) (tRaise C E t):=by
  intro pins s σ H D I h
  obtain ⟨tl,N,nm,q,bs,hdct,sn,sub,ab,col,dd,k0,k1,k2,k3,k5,mN,hC,hN,hni,T⟩:=exc_obj I.ok.mod.kin c.exc
  refine wpAny_Raise_call_subT (C:=C) (nm:=nm) (q:=q) (N:=N) (bs:=bs) (bm:=tl) (hdct:=hdct) (sn:=sn) (sub:=sub) (ab:=ab) (col:=col) (dd:=dd) (k0:=k0) (k1:=k1) (k2:=k2) (k3:=k3) (k5:=k5)
    PySem.F.excBase_ValueError (mN:=mN) (T.hasType PySem.F.excBase_ValueError.hasBase) (I.ok.hd hc) (by rw [he]; show (false || (backTo cpos (starEach es X.env)).any (·.1)) = false; rw [hpl]; rfl) hni (ld_glob I hg c.mg ⟨rfl,?_⟩ hd)
  have h2:=ha cpos pins s σ H _ I h
  rw [he] at h2 ⊢
  refine Calls.evalArgs_plain (wpAny_mono h2 (fun us s2 ⟨vs,H2,I2,r,hz,hE⟩=>?_) fun _ _ y=>y)
  exact ⟨rfl,by rw [← r.length]; exact hz,I2.bk _ _ hC,hN.keeps I2.bk,T.keeps I2.bk,fun h' ea mk=>hr pins σ H2 s2 ea (.ref C) us h' I2 mk hE⟩
end
theorem Fun.okX {P:Program} {w:World} {K:PySem.W.Frag} {mg:Str → Option Value} {base:Heap} {x qual:Str} {st:Stmt} {f:Addr} {fd:FuncData} {N ps:List Str} {k:Nat} {sp:Sp} (F:Fun K x qual st f fd) (S:FnScope N ps (defScope st)) (len:∀ vs H Q E,sp vs H Q E → vs.length = ps.length)
    (hbody:∀ (cdv:Value) (A:Around) (outer:List Env) (s:Shared) (H:Hp) (vs:List V) (Q:VK) (E:XK),Room k (A.deeper (envOfC qual (defScope st) s.heap.objs.size f cdv)) → sp vs H Q E →
      ∃ t,PSs (cxOf (CX1 P w) P w K mg base N qual (defScope st) f cdv A outer s H E) (defBody st) t ∧ t { nx:=fun _ H'=>Q .non H',rt:=Q } (start N vs) H):FnOk P w K mg base (CX1 P w) (k + 1) f fd ps sp:=by
  obtain ⟨oc,od,kV,doc,pm,an,cdv,ct,osl,rfl,lk,hcd⟩:=F.ex
  exact fn_of lk hcd S len fun A outer s H vs Q E hr hsp=>hbody cdv A outer s H vs Q E hr hsp
end L2
namespace L2
open PySem PySem.Spec PyProof.Rows
theorem Inv.track {X:Cx} {pins:List (Addr × Obj)} {σ:St} {H:Hp} {s:Shared} {a:Addr} {o:HO} (I:Inv X pins σ H s) (hn:H a = none) (new:ObjOk X.prog X.w (upd H a o) s.heap a o) (h0:X.s₀.heap.get? a = none) (hL:a ≠ X.env.locals)
    (hC:∀ x c,X.env.cells.lookup x = some c → c ≠ a) (hp:∀ p ∈ X.pn ++ pins,p.1 ≠ a):Inv X pins σ (upd H a o) s:=by
  have ne:∀ b ob,X.s₀.heap.get? b = some ob → b ≠ a:=fun b ob e z=>by rw [z,h0] at e; cases e
  have tr:∀ b u,H b = some u → upd H a o b = some u:=fun b u e=>by rw [upd_ne (ne_of_none e hn)]; exact e
  refine ⟨I.ok,I.os,I.bare,⟨I.base.keep,I.base.slot,fun b ob e n hx=>by rw [upd_ne (ne b ob e)]; exact I.base.free b ob e n hx,I.base.there,fun b xs q=>tr _ _ (I.base.tups b xs q),fun b ob u q=>tr _ _ (I.base.frzs b ob u q),fun b ps q=>?_⟩,
    I.loc,I.cell,by rw [upd_ne (Ne.symm hL)]; exact I.free,fun x c e=>by rw [upd_ne (hC x c e)]; exact I.freeC x c e,fun p q=>?_,I.hok.track hn new,I.len⟩
  · obtain ⟨m,e⟩:=I.base.tbls b ps q
    exact ⟨m,tr _ _ e⟩
  · obtain ⟨q1,q2,q3⟩:=I.pin p q
    exact ⟨q1,by rw [upd_ne (hp p q)]; exact q2,q3⟩
def XP (X:Cx) (pins:List (Addr × Obj)) (σ:St) (E:XK) (ev:Value) (s':Shared):Prop:=∃ H s0,Inv X pins σ H s0 ∧ CX1 X.prog X.w X.stack H s0 E ev s'
abbrev TX:=St → Hp → VK → XK → Prop
section
variable {X:Cx} {k:Nat} {f C:Addr} {fd:FuncData} {ps:List Str} {sp:Sp} {dvs:List V} {ds:List Value} {x m:Str} {p pos apos:Pos} {e o:Expr} {es:List Expr} {ta:TE} {t:TA}
end
def Cx.suite (X:Cx) (ea:Addr):Cx:={ X with A:=X.A.mark (some (.ref ea)),calm:=false,xe:=fun _ _=>False }
section
variable {X:Cx} {pins:List (Addr × Obj)} {σ:St} {H:Hp} {s:Shared} {ea:Addr}
theorem Inv.suite (I:Inv X pins σ H s) (ea:Addr):Inv (X.suite ea) pins σ H s :=
  ⟨⟨I.ok.mod,I.ok.kind,I.ok.glob,I.ok.blt,I.ok.above,I.ok.inj,I.ok.has,I.ok.cab,fun q=>(nomatch q),I.ok.frames,I.ok.stk,I.ok.exf,I.ok.bs,I.ok.bsz,I.ok.noex,I.ok.exfs,I.ok.funs,I.ok.frf⟩,I.os,I.bare,I.base,I.loc,I.cell,I.free,I.freeC,I.pin,I.hok,I.len⟩
end
section
variable {X:Cx} {e:Expr} {c n:Str} {b₀:Stmt} {suite:List Stmt} {epos np hpos pos:Pos} {te:TX} {ts:TS} {cv:Value} {i:Nat}
end
end L2
namespace L2
open PySem PySem.Spec PyProof.Rows
section
variable {prog:Program} {w:World} {A:Around} {E:Value → Shared → Prop} {K:PySem.W.Frag} {h:Heap} {g:Array GenState} {d:Drawn} {t:Nat} {os:OsState} {a D:Addr} {o:Obj} {vs:Array Value}
structure ExcLk (K:PySem.W.Frag) (D:Addr):Prop where
  ga:PySem.W.findIn K (.ref D) "__getattribute__" = some (some (.builtin "BaseException.__getattribute__"))
  gt:PySem.W.findIn K (.ref D) "__getattr__" = some none
  cl:PySem.W.findIn K (.ref D) "__class__" = some (some (.builtin "object.__class__"))
  mro:PySem.W.mroIn K D (.type "object") = some true
  sub:PySem.W.subIn K (.ref D) (.type "BaseException") = some true
  cls:(PySem.W.clsIn K D).isSome = true
section
open PySem.W Builtin Builtin.ObjectAttr Builtin.Getset_descriptor
end
end
section
variable {X:Cx}
end
structure RoomN (k:Nat) (A:Around):Prop where
  dp:A.depth + 3 * k + 5 < recursionLimit
  un:A.units + 16 * k + 200 < cLine
theorem Room.n {k:Nat} {A:Around} (r:Room k A):RoomN k A:=⟨r.dp,r.un⟩
theorem RoomN.mono {j k:Nat} {A:Around} (r:RoomN k A) (h:j ≤ k):RoomN j A:=⟨by have:=r.dp; omega,by have:=r.un; omega⟩
theorem RoomN.mark {k:Nat} {A:Around} (r:RoomN k A) (hd:Option Value):RoomN k (A.mark hd):=⟨r.dp,r.un⟩
theorem RoomN.deeper {k:Nat} {A:Around} (r:RoomN (k + 1) A) (env:Env):RoomN k (A.deeper env) :=
  ⟨by have:=r.dp; show A.depth + 1 + 3 * k + 5 < _; omega,by have:=r.un; show A.units + 3 + 16 * k + 200 < _; omega⟩
theorem RoomN.depth {k:Nat} {A:Around} (r:RoomN k A):A.depth < recursionLimit:=by have:=r.dp; omega
theorem RoomN.units {k:Nat} {A:Around} (r:RoomN k A):A.units + 64 < cLine:=by have:=r.un; omega
structure FnOkN (P:Program) (w:World) (K:PySem.W.Frag) (mg:Str → Option Value) (base:Heap) (k:Nat) (f:Addr) (fd:FuncData) (ps:List Str) (sp:Sp):Prop where
  len:∀ vs H Q E,sp vs H Q E → vs.length = ps.length
  run:∀ (A:Around) (outer:List Env) (s:Shared) (H:Hp) (args:Args) (us:List Value) (vs:List V) (Q:VK) (E:XK),RoomN k A → Env0 P w K mg base A outer s H → BindsTo s fd args (ps.zip us) → Vals vs us → sp vs H Q E →
    codeAny (model P w) A (.call (.ref f) args) (CR CX0 outer P w H s Q E) s
theorem FnOkN.calm {P:Program} {w:World} {K:PySem.W.Frag} {mg:Str → Option Value} {base:Heap} {k:Nat} {f:Addr} {fd:FuncData} {ps:List Str} {sp:Sp} (F:FnOkN P w K mg base k f fd ps sp):FnOk P w K mg base CX0 k f fd ps sp :=
  ⟨F.len,fun A outer s H args us vs Q E hr=>F.run A outer s H args us vs Q E hr.n⟩
def cxOfN (P:Program) (w:World) (K:PySem.W.Frag) (mg:Str → Option Value) (base:Heap) (N:List Str) (qual:Str) (scope:Scope) (f:Addr) (cd:Value) (A:Around) (outer:List Env) (s:Shared) (H:Hp):Cx :=
  { cxOf CX0 P w K mg base N qual scope f cd A outer s H E0 with calm:=false,xe:=fun _ _=>False }
section
variable {X:Cx} {k:Nat} {f:Addr} {fd:FuncData} {ps:List Str} {sp:Sp} {dvs:List V} {ds:List Value} {x:Str} {p pos:Pos} {e:Expr} {es:List Expr} {t:TA} {E:XK}
end
structure ClsM (K:PySem.W.Frag) (B:Addr) (m:Str) (f:Addr):Prop where
  sp:PySem.W.specialIn K (.ref B) "__getattribute__" = some (some (.builtin "type.__getattribute__"))
  rd:PySem.W.readsIn K B (.type "type") = true
  fd:PySem.W.findCls K (.ref B) (.type "type") m = some (.val (.ref f))
  kp:PySem.W.keepIn K (.ref f) = true
section
variable {X:Cx} {CX:CXT} {k:Nat} {f B:Addr} {fd:FuncData} {ps:List Str} {sp:Sp} {dvs:List V} {ds:List Value} {E:XK} {x m:Str} {p pos apos:Pos} {e:Expr} {es:List Expr} {t:TA}
theorem pe_clsm {pl:Sem Bool} (hg:Gl X x) (hmg:X.mg x = some (.ref B)) (c:ClsM X.K B m f) (F:FnOk X.prog X.w X.K X.mg X.base CX k f fd ps sp) (hr:Room k X.A) (hb:Binds X.K fd ps ds) (hd:Vals dvs ds) (hx:Passes CX X E) (ha:PA X (e :: es) t)
    (hdb:(x == ("__debug__":Str)) = false:=by decide) (hst:starEach (e :: es) X.env = (false,eval e X.env) :: starEach es X.env:=by rfl) (hpl:(backTo pos (starEach es X.env)).any (·.1) = false:=by rfl)
    (ht:eval (.Call (.Attribute (.Name x p) m apos) (e :: es) [] pos) X.env = (do
      let ov ← eval (.Name x p) X.env
      standAt apos.atName
      let (f,first) ← holding [ov] (getMethod ov m pl)
      callWith pos f first (backTo pos (starEach (e :: es) X.env)) (backToKw pos (keywordEach [] X.env))):=by rfl) :
    PE X (.Call (.Attribute (.Name x p) m apos) (e :: es) [] pos) (tCall sp dvs E t):=by
  intro pins s σ H Q I h
  refine PySem.W.methodCall_KW (pl:=pl) (ld_glob I hg hmg ?_ hdb) ht
  refine PySem.W.method_cls I.kIn c.sp (PySem.W.cls_value I.kIn c.rd c.fd rfl ?_)
  have I':=I.tok (s.toks + 1)
  refine PySem.W.callWith_K (first:=[]) (h₀:=X.base) I.ok.mod.kin c.kp (thn (ha pos pins { s with toks:=s.toks + 1 } σ H _ I' h) fun us s2 ⟨vs,H2,I2,r,q2⟩=>⟨I2.kIn,?_⟩) hst hpl
  exact run_fn F hr hb hd hx I2 r q2
end
section
variable {X:Cx}
def rInsert:V → List V → Hp → VK → Prop:=fun x vs H Q=>∃ l xs i y,x = .ref l ∧ vs = [.int i,y] ∧ H l = some (.lst xs) ∧ 0 ≤ i ∧ i ≤ xs.length ∧ xs.length < sizeLine ∧ Q .non (upd H l (.lst (xs.take i.toNat ++ y :: xs.drop i.toNat)))
end
end L2
namespace L2
open PySem PySem.Spec PyProof.Rows
section
variable {X:Cx}
theorem CallR.imp {f:Value} {r r':List V → Hp → VK → Prop} (h:CallR X f r) (hi:∀ xs H Q,r' xs H Q → r xs H Q):CallR X f r':=fun pins s σ H xs us Q I rs q=>h pins s σ H xs us Q I rs (hi _ _ _ q)
def rLenL (K:PySem.W.Frag):List V → Hp → VK → Prop:=fun xs H Q=>∃ p ys,xs = [.ref p] ∧ SqL K H p ys ∧ Q (.int ys.length) H
def rLenT (K:PySem.W.Frag):List V → Hp → VK → Prop:=fun xs H Q=>∃ p ys,xs = [.ref p] ∧ SqT K H p ys ∧ Q (.int ys.length) H
def rListL (K:PySem.W.Frag):List V → Hp → VK → Prop:=fun xs H Q=>∃ p ys,xs = [.ref p] ∧ SqL K H p ys ∧ ∀ l,H l = none → Q (.ref l) (upd H l (.lst ys))
def rListT (K:PySem.W.Frag):List V → Hp → VK → Prop:=fun xs H Q=>∃ p ys,xs = [.ref p] ∧ SqT K H p ys ∧ ∀ l,H l = none → Q (.ref l) (upd H l (.lst ys))
def rTupL (K:PySem.W.Frag):List V → Hp → VK → Prop:=fun xs H Q=>∃ p ys,xs = [.ref p] ∧ SqL K H p ys ∧ ∀ l,H l = none → Q (.ref l) (upd H l (.tup ys))
def rTupT (K:PySem.W.Frag):List V → Hp → VK → Prop:=fun xs H Q=>∃ p ys,xs = [.ref p] ∧ SqT K H p ys ∧ Q (.ref p) H
def rIsiT (K:PySem.W.Frag):List V → Hp → VK → Prop:=fun xs H Q=>∃ x n t b,xs = [x,.ty n] ∧ TyOf K H x t ∧ PySem.W.kitOne K t (.type n) = some b ∧ Q (.bl b) H
theorem call_lenL:CallR X (.builtin "len") (rLenL X.K):=call_len_seq.imp fun _ _ _ ⟨p,ys,e,h,q⟩=>⟨p,ys,e,.inl h,q⟩
theorem call_lenT:CallR X (.builtin "len") (rLenT X.K):=call_len_seq.imp fun _ _ _ ⟨p,ys,e,h,q⟩=>⟨p,ys,e,.inr h,q⟩
theorem call_listL:CallR X (.type "list") (rListL X.K):=call_list_of.imp fun _ _ _ ⟨p,ys,e,h,q⟩=>⟨p,ys,e,.inl h,q⟩
theorem call_tupL:CallR X (.type "tuple") (rTupL X.K):=call_tuple_of.imp fun _ _ _ ⟨p,ys,e,h,q⟩=>⟨p,ys,e,.inl ⟨h,q⟩⟩
end
theorem scal_ii {a b:Int}:(scal (.int a) (.int b) = true) = True:=eq_true rfl
theorem scal_ss {a b:Str}:(scal (.str a) (.str b) = true) = True:=eq_true rfl
theorem scal_bb {a b:Bool}:(scal (.bl a) (.bl b) = true) = True:=eq_true rfl
theorem Same.upd {H H':Hp} {l:Addr} {o:HO} (s:Same H H') (h:H' l = none):Same H (upd H' l o):=fun b u e=>by
  have e':=s b u e
  rw [upd_ne (ne_of_none e' h)]
  exact e'
theorem Same.put {H:Hp} {l:Addr} {o:HO} (h:H l = none):Same H (L2.upd H l o):=(Same.refl H).upd h
end L2
namespace SH
open PySem L2
abbrev LET:Str:="abcdefghijklmnopqrstuvwxyz"
def letC (c:Nat):Bool:=!(Builtin.Str.occurrences LET ⟨#[c]⟩ 0 LET.length 1).isEmpty
def markS (x:Str):Bool:=decide (1 ≤ x.length) && decide (x.length ≤ 8) && x.cps.toList.all letC
def markV:V → Bool
  | .str x=>markS x
  | _=>false
def wholeV:V → Bool
  | .int _=>true
  | _=>false
inductive Thg (H:Hp):V → Prop where
  | non:Thg H .non
  | bl (b:Bool):Thg H (.bl b)
  | int (i:Int):Thg H (.int i)
  | str (x:Str) (h:x.length ≤ 1000):Thg H (.str x)
  | lst {a:Addr} {xs:List V} (h:H a = some (.lst xs)):Thg H (.ref a)
  | tup {a:Addr} {xs:List V} (h:H a = some (.tup xs)):Thg H (.ref a)
theorem Thg.same {H H':Hp} {v:V} (s:Same H H') (t:Thg H v):Thg H' v:=by
  cases t with
  | non=>exact .non
  | bl b=>exact .bl b
  | int i=>exact .int i
  | str x h=>exact .str x h
  | lst h=>exact .lst (s _ _ h)
  | tup h=>exact .tup (s _ _ h)
def isStr:V → Bool
  | .str _=>true
  | _=>false
def isInt:V → Bool
  | .int _=>true
  | .bl _=>true
  | _=>false
def isBl:V → Bool
  | .bl _=>true
  | _=>false
section
variable {K:PySem.W.Frag}
theorem Thg.ty {H:Hp} {v:V} (t:Thg H v):∃ y,TyOf K H v y ∧ PySem.W.kitOne K y (.type "str") = some (isStr v) ∧ PySem.W.kitOne K y (.type "int") = some (isInt v) ∧ PySem.W.kitOne K y (.type "bool") = some (isBl v):=by
  cases t with
  | non=>exact ⟨_,.non,by kernel_rfl,by kernel_rfl,by kernel_rfl⟩
  | bl b=>exact ⟨_,.bl b,by kernel_rfl,by kernel_rfl,by kernel_rfl⟩
  | int i=>exact ⟨_,.int i,by kernel_rfl,by kernel_rfl,by kernel_rfl⟩
  | str x h=>exact ⟨_,.str x,by kernel_rfl,by kernel_rfl,by kernel_rfl⟩
  | lst h=>exact ⟨_,.lst h,by kernel_rfl,by kernel_rfl,by kernel_rfl⟩
  | tup h=>exact ⟨_,.tup h,by kernel_rfl,by kernel_rfl,by kernel_rfl⟩
theorem Thg.isList {H:Hp} {v:V} (t:Thg H v):∃ y b,TyOf K H v y ∧ PySem.W.kitOne K y (.type "list") = some b ∧ ((b = true ∧ ∃ a xs,v = .ref a ∧ H a = some (.lst xs)) ∨ (b = false ∧ ∀ a xs,v = .ref a → H a ≠ some (.lst xs))):=by
  cases t with
  | non=>exact ⟨_,false,.non,by kernel_rfl,.inr ⟨rfl,fun _ _ z=>nomatch z⟩⟩
  | bl b=>exact ⟨_,false,.bl b,by kernel_rfl,.inr ⟨rfl,fun _ _ z=>nomatch z⟩⟩
  | int i=>exact ⟨_,false,.int i,by kernel_rfl,.inr ⟨rfl,fun _ _ z=>nomatch z⟩⟩
  | str x h=>exact ⟨_,false,.str x,by kernel_rfl,.inr ⟨rfl,fun _ _ z=>nomatch z⟩⟩
  | lst h=>exact ⟨_,true,.lst h,by kernel_rfl,.inl ⟨rfl,_,_,rfl,h⟩⟩
  | tup h=>exact ⟨_,false,.tup h,by kernel_rfl,.inr ⟨rfl,fun _ _ z e=>by cases z; rw [h] at e; cases e⟩⟩
end
theorem all_take_succ {p:Nat → Bool} {l:List Nat} {i c:Nat} (h:l[i]? = some c):(l.take (i + 1)).all p = ((l.take i).all p && p c):=by
  rw [List.take_add_one,h]
  simp
theorem at_str {z:Str} {i m:Int} (h0:0 < m) (h1:m ≤ z.length):∃ c,c ∈ z.cps.toList ∧ atI z.cps.toList (i % m) = some c:=by
  obtain ⟨v,hm,_,e⟩:=atI_mod (xs:=z.cps.toList) (i:=i) h0 (by simpa [Str.length] using h1)
  exact ⟨v,hm,e⟩
theorem one_len (c:Nat):(⟨#[c]⟩:Str).length = 1:=rfl
def StIs (σ τ:St):Prop:=σ = τ
theorem StIs.rfl {σ:St}:StIs σ σ:=Eq.refl σ
theorem StIs.eq {σ τ:St} (h:StIs σ τ):σ = τ:=h
def GoodL (n:Nat) (H:Hp) (v:V):Prop:=∃ a xs,v = .ref a ∧ H a = some (.lst xs) ∧ xs.length ≤ n
def GoodM (n:Nat) (H:Hp) (v:V):Prop:=∃ a xs,v = .ref a ∧ H a = some (.lst xs) ∧ xs.length ≤ n ∧ xs.all markV = true
def Thg2 (H:Hp) (v:V):Prop:=Thg H v ∧ ∀ a xs,v = .ref a → H a = some (.lst xs) → ∀ x ∈ xs,Thg H x
theorem Thg.back {H H':Hp} {v:V} {a:Addr} {xs:List V} (t:Thg H v) (s:Same H H') (e:v = .ref a) (h:H' a = some (.lst xs)):H a = some (.lst xs):=by
  cases t with
  | non=>cases e
  | bl b=>cases e
  | int i=>cases e
  | str x h=>cases e
  | lst h1=>cases e; rw [s _ _ h1] at h; cases h; exact h1
  | tup h1=>cases e; rw [s _ _ h1] at h; cases h
theorem Thg2.same {H H':Hp} {v:V} (s:Same H H') (t:Thg2 H v):Thg2 H' v:=⟨t.1.same s,fun a xs e h x hx=>(t.2 a xs e (t.1.back s e h) x hx).same s⟩
theorem GoodM.back {n:Nat} {H H':Hp} {v:V} (t:Thg H v) (s:Same H H') (g:GoodM n H' v):GoodM n H v:=by
  obtain ⟨a,xs,e,h,l,m⟩:=g
  exact ⟨a,xs,e,t.back s e h,l,m⟩
theorem thg2_lst {H:Hp} {a:Addr} {xs:List V} (h:H a = some (.lst xs)) (hx:∀ x ∈ xs,Thg H x):Thg2 H (.ref a):=⟨.lst h,fun a' xs' e h' x m=>by cases e; rw [h] at h'; cases h'; exact hx x m⟩
theorem app_list (a y:Str):(a ++ y).cps.toList = a.cps.toList ++ y.cps.toList:=by
  rw [PySem.Str.cps_append,Array.toList_append]
theorem letC_iff {c:Nat}:letC c = true ↔ c ∈ LET.cps.toList:=by
  unfold letC
  rw [PySem.StrLaws.found_one,decide_eq_true_eq]
theorem letC_ok {c:Nat} (h:letC c = true):c < 0x110000:=by
  have h1:∀ d ∈ LET.cps.toList,d < 0x110000:=by decide +kernel
  exact h1 c (letC_iff.mp h)
theorem mark_all {z:Str} (h:markS z = true):1 ≤ z.length ∧ z.length ≤ 8 ∧ ∀ c ∈ z.cps.toList,letC c = true:=by
  unfold markS at h
  simp only [Bool.and_eq_true,decide_eq_true_eq,List.all_eq_true] at h
  exact ⟨h.1.1,h.1.2,h.2⟩
theorem mark_strOk {z:Str} (h:markS z = true):PyData.strOk z = true:=by
  unfold PyData.strOk
  rw [← Array.all_toList,List.all_eq_true]
  intro c hc
  exact decide_eq_true (letC_ok ((mark_all h).2.2 c hc))
theorem mark_of {z:Str} (h1:1 ≤ z.length) (h2:z.length ≤ 8) (h3:∀ c ∈ z.cps.toList,letC c = true):markS z = true:=by
  unfold markS
  simp only [Bool.and_eq_true,decide_eq_true_eq,List.all_eq_true]
  exact ⟨⟨h1,h2⟩,h3⟩
end SH
namespace SH
open PySem L2
theorem lookup2 {α:Type} {a b:Str} {x y:α} (h:(b == a) = false):List.lookup b [(a,x),(b,y)] = some y:=by
  rw [List.lookup_cons,h,List.lookup_cons,beq_self_eq_true]
theorem lookup_no {α:Type} {a b c:Str} {x y:α} (h:(c == a) = false) (h':(c == b) = false):List.lookup c [(a,x),(b,y)] = none:=by
  rw [List.lookup_cons,h,List.lookup_cons,h']
  rfl
theorem putF2 {a b:Str} {x y:V} (h:¬ a = b):putF b y [(a,x)] = [(a,x),(b,y)]:=by
  show (if a = b then [(a,y)] else (a,x) :: putF b y []) = _
  rw [if_neg h]
  rfl
abbrev Nd:=Str × Int
def NodeAt (H:Hp) (x:V) (n:Nd):Prop:=∃ t,x = .ref t ∧ H t = some (.tup [.str n.1,.int n.2])
def NodesAt (H:Hp):List V → List Nd → Prop
  | [],[]=>True
  | x :: xs,n :: ns=>NodeAt H x n ∧ NodesAt H xs ns
  | [],_ :: _=>False
  | _ :: _,[]=>False
theorem NodeAt.same {H H':Hp} {x:V} {n:Nd} (s:Same H H') (h:NodeAt H x n):NodeAt H' x n:=by
  obtain ⟨t,e,h⟩:=h
  exact ⟨t,e,s _ _ h⟩
theorem NodeAt.uniq {H:Hp} {x:V} {n m:Nd} (a:NodeAt H x n) (b:NodeAt H x m):n = m:=by
  obtain ⟨t,e,h⟩:=a
  obtain ⟨t',e',h'⟩:=b
  rw [e] at e'
  cases e'
  rw [h] at h'
  obtain ⟨n1,n2⟩:=n
  obtain ⟨m1,m2⟩:=m
  simp at h'
  rw [h'.1,h'.2]
theorem NodesAt.same {H H':Hp} (s:Same H H'):∀ {xs:List V} {ns:List Nd},NodesAt H xs ns → NodesAt H' xs ns
  | [],[],h=>h
  | _ :: _,_ :: _,h=>⟨h.1.same s,NodesAt.same s h.2⟩
  | [],_ :: _,h=>h.elim
  | _ :: _,[],h=>h.elim
theorem NodesAt.tups {H H':Hp} (s:∀ b ys,H b = some (.tup ys) → H' b = some (.tup ys)):∀ {xs:List V} {ns:List Nd},NodesAt H xs ns → NodesAt H' xs ns
  | [],[],h=>h
  | _ :: _,_ :: _,h=>by
    obtain ⟨⟨t,e,h1⟩,h2⟩:=h
    exact ⟨⟨t,e,s _ _ h1⟩,NodesAt.tups s h2⟩
  | [],_ :: _,h=>h.elim
  | _ :: _,[],h=>h.elim
theorem NodesAt.length {H:Hp}:∀ {xs:List V} {ns:List Nd},NodesAt H xs ns → xs.length = ns.length
  | [],[],_=>rfl
  | _ :: _,_ :: _,h=>by rw [List.length_cons,List.length_cons,NodesAt.length h.2]
  | [],_ :: _,h=>h.elim
  | _ :: _,[],h=>h.elim
theorem NodesAt.uniq {H:Hp}:∀ {xs:List V} {ns ms:List Nd},NodesAt H xs ns → NodesAt H xs ms → ns = ms
  | [],[],[],_,_=>rfl
  | _ :: _,_ :: _,_ :: _,a,b=>by rw [a.1.uniq b.1,NodesAt.uniq a.2 b.2]
  | [],_ :: _,_,a,_=>a.elim
  | [],_,_ :: _,_,b=>b.elim
  | _ :: _,[],_,a,_=>a.elim
  | _ :: _,_,[],_,b=>b.elim
theorem NodesAt.append {H:Hp}:∀ {xs ys:List V} {ns ms:List Nd},NodesAt H xs ns → NodesAt H ys ms → NodesAt H (xs ++ ys) (ns ++ ms)
  | [],_,[],_,_,b=>b
  | _ :: _,_,_ :: _,_,a,b=>⟨a.1,NodesAt.append a.2 b⟩
  | [],_,_ :: _,_,a,_=>a.elim
  | _ :: _,_,[],_,a,_=>a.elim
theorem NodesAt.split {H:Hp}:∀ {xs ys:List V} {ns:List Nd},NodesAt H (xs ++ ys) ns → ∃ n1 n2,ns = n1 ++ n2 ∧ NodesAt H xs n1 ∧ NodesAt H ys n2
  | [],_,ns,h=>⟨[],ns,rfl,trivial,h⟩
  | x :: xs,ys,[],h=>h.elim
  | x :: xs,ys,n :: ns,h=>by
    obtain ⟨n1,n2,e,a,b⟩:=NodesAt.split (xs:=xs) h.2
    exact ⟨n :: n1,n2,by rw [e]; rfl,⟨h.1,a⟩,b⟩
theorem NodesAt.get {H:Hp}:∀ {xs:List V} {ns:List Nd} {i:Nat} {x:V},NodesAt H xs ns → xs[i]? = some x → ∃ n,ns[i]? = some n ∧ NodeAt H x n
  | [],[],_,_,_,e=>by simp at e
  | _ :: _,n :: _,0,_,h,e=>by simp at e; subst e; exact ⟨n,rfl,h.1⟩
  | _ :: _,_ :: _,i + 1,x,h,e=>by
    obtain ⟨m,a,b⟩:=NodesAt.get (i:=i) (x:=x) h.2 (by simpa using e)
    exact ⟨m,by simpa using a,b⟩
  | [],_ :: _,_,_,h,_=>h.elim
  | _ :: _,[],_,_,h,_=>h.elim
theorem NodesAt.take {H:Hp}:∀ {xs:List V} {ns:List Nd} (i:Nat),NodesAt H xs ns → NodesAt H (xs.take i) (ns.take i)
  | [],[],_,_=>by simp [NodesAt]
  | _ :: _,_ :: _,0,_=>trivial
  | _ :: _,_ :: _,i + 1,h=>⟨h.1,NodesAt.take i h.2⟩
  | [],_ :: _,_,h=>h.elim
  | _ :: _,[],_,h=>h.elim
theorem NodesAt.drop {H:Hp}:∀ {xs:List V} {ns:List Nd} (i:Nat),NodesAt H xs ns → NodesAt H (xs.drop i) (ns.drop i)
  | [],[],_,_=>by simp [NodesAt]
  | _ :: _,_ :: _,0,h=>h
  | _ :: _,_ :: _,i + 1,h=>NodesAt.drop i h.2
  | [],_ :: _,_,h=>h.elim
  | _ :: _,[],_,h=>h.elim
def deep1 (n:Nd):Int:=min (n.2 + 1) 12
def depthOk:Int → List Nd → Prop
  | _,[]=>True
  | d,n :: r=>markS n.1 = true ∧ 0 ≤ n.2 ∧ n.2 ≤ d ∧ depthOk (deep1 n) r
def deepAfter:Int → List Nd → Int
  | d,[]=>d
  | _,n :: r=>deepAfter (deep1 n) r
theorem depthOk_append:∀ {d:Int} {a b:List Nd},depthOk d (a ++ b) ↔ depthOk d a ∧ depthOk (deepAfter d a) b
  | d,[],b=>by simp [depthOk,deepAfter]
  | d,n :: r,b=>by
    have ih:=depthOk_append (d:=deep1 n) (a:=r) (b:=b)
    simp only [List.cons_append,depthOk,deepAfter,ih]
    constructor
    · rintro ⟨h1,h2,h3,h4,h5⟩; exact ⟨⟨h1,h2,h3,h4⟩,h5⟩
    · rintro ⟨⟨h1,h2,h3,h4⟩,h5⟩; exact ⟨h1,h2,h3,h4,h5⟩
theorem deepAfter_append:∀ {d:Int} {a b:List Nd},deepAfter d (a ++ b) = deepAfter (deepAfter d a) b
  | _,[],_=>rfl
  | _,n :: r,b=>deepAfter_append (d:=deep1 n) (a:=r) (b:=b)
theorem depthOk_all {d:Int} {ns:List Nd}:depthOk d ns → ∀ n ∈ ns,markS n.1 = true ∧ 0 ≤ n.2:=by
  induction ns generalizing d with
  | nil=>intro _ n h; exact nomatch h
  | cons m r ih =>
    rintro ⟨h1,h2,_,h4⟩ n hn
    rcases List.mem_cons.mp hn with e | e
    · rw [e]; exact ⟨h1,h2⟩
    · exact ih h4 n e
def Thg3 (H:Hp) (v:V):Prop:=Thg H v ∧ ∀ a xs,v = .ref a → H a = some (.tup xs) → ∀ x ∈ xs,Thg H x
def Thg4 (H:Hp) (v:V):Prop:=Thg H v ∧ ∀ a xs,v = .ref a → H a = some (.lst xs) → ∀ x ∈ xs,Thg3 H x
def GoodN (H:Hp) (v:V):Prop:=∃ a xs ns,v = .ref a ∧ H a = some (.lst xs) ∧ xs.length ≤ 40 ∧ NodesAt H xs ns ∧ depthOk 0 ns
theorem Thg.backT {H H':Hp} {v:V} {a:Addr} {xs:List V} (t:Thg H v) (s:Same H H') (e:v = .ref a) (h:H' a = some (.tup xs)):H a = some (.tup xs):=by
  cases t with
  | non=>cases e
  | bl b=>cases e
  | int i=>cases e
  | str x h=>cases e
  | lst h1=>cases e; rw [s _ _ h1] at h; cases h
  | tup h1=>cases e; rw [s _ _ h1] at h; cases h; exact h1
theorem Thg3.same {H H':Hp} {v:V} (s:Same H H') (t:Thg3 H v):Thg3 H' v:=⟨t.1.same s,fun a xs e h x hx=>(t.2 a xs e (t.1.backT s e h) x hx).same s⟩
theorem Thg4.same {H H':Hp} {v:V} (s:Same H H') (t:Thg4 H v):Thg4 H' v:=⟨t.1.same s,fun a xs e h x hx=>(t.2 a xs e (t.1.back s e h) x hx).same s⟩
theorem NodeAt.back {H H':Hp} {v:V} {n:Nd} (t:Thg H v) (s:Same H H') (h:NodeAt H' v n):NodeAt H v n:=by
  obtain ⟨a,e,h⟩:=h
  exact ⟨a,e,t.backT s e h⟩
theorem NodesAt.back {H H':Hp} (s:Same H H'):∀ {xs:List V} {ns:List Nd},(∀ x ∈ xs,Thg H x) → NodesAt H' xs ns → NodesAt H xs ns
  | [],[],_,h=>h
  | x :: xs,_ :: _,t,h=>⟨h.1.back (t x List.mem_cons_self) s,NodesAt.back s (fun y hy=>t y (List.mem_cons_of_mem _ hy)) h.2⟩
  | [],_ :: _,_,h=>h.elim
  | _ :: _,[],_,h=>h.elim
theorem GoodN.back {H H':Hp} {v:V} (t:Thg4 H v) (s:Same H H') (g:GoodN H' v):GoodN H v:=by
  obtain ⟨a,xs,ns,e,h,l,m,d⟩:=g
  have h0:=t.1.back s e h
  exact ⟨a,xs,ns,e,h0,l,m.back s fun x hx=>(t.2 a xs e h0 x hx).1,d⟩
theorem Thg.isTup {K:PySem.W.Frag} {H:Hp} {v:V} (t:Thg H v):∃ y b,TyOf K H v y ∧ PySem.W.kitOne K y (.type "tuple") = some b ∧ ((b = true ∧ ∃ a xs,v = .ref a ∧ H a = some (.tup xs)) ∨ (b = false ∧ ∀ a xs,v = .ref a → H a ≠ some (.tup xs))):=by
  cases t with
  | non=>exact ⟨_,false,.non,by kernel_rfl,.inr ⟨rfl,fun _ _ z=>nomatch z⟩⟩
  | bl b=>exact ⟨_,false,.bl b,by kernel_rfl,.inr ⟨rfl,fun _ _ z=>nomatch z⟩⟩
  | int i=>exact ⟨_,false,.int i,by kernel_rfl,.inr ⟨rfl,fun _ _ z=>nomatch z⟩⟩
  | str x h=>exact ⟨_,false,.str x,by kernel_rfl,.inr ⟨rfl,fun _ _ z=>nomatch z⟩⟩
  | lst h=>exact ⟨_,false,.lst h,by kernel_rfl,.inr ⟨rfl,fun _ _ z e=>by cases z; rw [h] at e; cases e⟩⟩
  | tup h=>exact ⟨_,true,.tup h,by kernel_rfl,.inl ⟨rfl,_,_,rfl,h⟩⟩
theorem notN_mid {H:Hp} {a:Addr} {A R:List V} {b:V} {ns:List Nd} (h:H a = some (.lst (A ++ b :: R))) (hA:NodesAt H A ns) (hb:∀ n,NodeAt H b n → ¬ (markS n.1 = true ∧ 0 ≤ n.2 ∧ n.2 ≤ deepAfter 0 ns)):¬ GoodN H (.ref a):=by
  rintro ⟨a',xs',ms,e,h',l,m,d⟩
  cases e
  rw [h] at h'
  cases h'
  obtain ⟨n1,n2,rfl,m1,m2⟩:=m.split
  cases n2 with
  | nil=>exact m2.elim
  | cons n r =>
    have:=m1.uniq hA
    subst this
    have d2:=(depthOk_append.mp d).2
    exact hb n m2.1 ⟨d2.1,d2.2.1,d2.2.2.1⟩
theorem thg3_tup {H:Hp} {a:Addr} {xs:List V} (h:H a = some (.tup xs)) (hx:∀ x ∈ xs,Thg H x):Thg3 H (.ref a):=⟨.tup h,fun a' xs' e h' x m=>by cases e; rw [h] at h'; cases h'; exact hx x m⟩
theorem thg4_lst {H:Hp} {a:Addr} {xs:List V} (h:H a = some (.lst xs)) (hx:∀ x ∈ xs,Thg3 H x):Thg4 H (.ref a):=⟨.lst h,fun a' xs' e h' x m=>by cases e; rw [h] at h'; cases h'; exact hx x m⟩
theorem NodeAt.thg3 {H:Hp} {x:V} {n:Nd} (h:NodeAt H x n) (hm:n.1.length ≤ 1000):Thg3 H x:=by
  obtain ⟨t,e,h⟩:=h
  subst e
  refine thg3_tup h fun y hy=>?_
  simp only [List.mem_cons,List.not_mem_nil,or_false] at hy
  rcases hy with rfl | rfl
  · exact .str _ hm
  · exact .int _
theorem NodesAt.thg3 {H:Hp}:∀ {xs:List V} {ns:List Nd},NodesAt H xs ns → (∀ n ∈ ns,n.1.length ≤ 1000) → ∀ x ∈ xs,Thg3 H x
  | [],[],_,_,_,hx=>nomatch hx
  | y :: xs,n :: ns,h,hm,x,hx=>by
    rcases List.mem_cons.mp hx with e | e
    · rw [e]; exact h.1.thg3 (hm n List.mem_cons_self)
    · exact NodesAt.thg3 h.2 (fun m hm'=>hm m (List.mem_cons_of_mem _ hm')) x e
  | [],_ :: _,h,_,_,_=>h.elim
  | _ :: _,[],h,_,_,_=>h.elim
end SH
namespace L2
open PySem PySem.Spec PyProof.Rows
theorem tseq_open {a b:TS} {D:Ends} {σ:St} {H:Hp} (h:∀ B:TS,B = b → tSeq a B D σ H):tSeq a b D σ H:=h b rfl
def Itr3 (lo st:Int) (n:Nat):It:=⟨fun i _=>i < n,fun i H x H'=>H' = H ∧ x = .int (lo + i * st),fun i _=>n ≤ i⟩
section
variable {X:Cx} {tg:Expr}
def iRng3 (ta:TA):TI:=fun σ H R=>ta σ H fun vs H1=>∃ j c:Int,vs = [.int 0,.int j,.int c] ∧ (-1000 ≤ j ∧ j ≤ 1000 ∧ 1 ≤ c ∧ c ≤ 1000) ∧ ∀ n:Nat,(∀ i:Nat,i < n → (i:Int) * c < j) → R (Itr3 0 c n) H1
end
end L2
namespace SH
open PySem L2
def RowAt (f:List V → HO) (H:Hp) (x:V) (l:List V):Prop:=∃ a,x = .ref a ∧ H a = some (f l)
def RowsAt (f:List V → HO) (H:Hp):List V → List (List V) → Prop
  | [],[]=>True
  | x :: xs,n :: ns=>RowAt f H x n ∧ RowsAt f H xs ns
  | [],_ :: _=>False
  | _ :: _,[]=>False
section
variable {f:List V → HO} {H H':Hp}
theorem RowAt.same {x:V} {n:List V} (s:Same H H') (h:RowAt f H x n):RowAt f H' x n:=by
  obtain ⟨t,e,h⟩:=h
  exact ⟨t,e,s _ _ h⟩
theorem RowsAt.keep (s:∀ b ys,H b = some (f ys) → H' b = some (f ys)):∀ {xs:List V} {ns:List (List V)},RowsAt f H xs ns → RowsAt f H' xs ns
  | [],[],h=>h
  | _ :: _,_ :: _,h=>by
    obtain ⟨⟨t,e,h1⟩,h2⟩:=h
    exact ⟨⟨t,e,s _ _ h1⟩,RowsAt.keep s h2⟩
  | [],_ :: _,h=>h.elim
  | _ :: _,[],h=>h.elim
theorem RowsAt.same (s:Same H H') {xs:List V} {ns:List (List V)} (h:RowsAt f H xs ns):RowsAt f H' xs ns:=h.keep fun b ys e=>s b _ e
theorem RowsAt.length:∀ {xs:List V} {ns:List (List V)},RowsAt f H xs ns → xs.length = ns.length
  | [],[],_=>rfl
  | _ :: _,_ :: _,h=>by rw [List.length_cons,List.length_cons,RowsAt.length h.2]
  | [],_ :: _,h=>h.elim
  | _ :: _,[],h=>h.elim
theorem RowsAt.append:∀ {xs ys:List V} {ns ms:List (List V)},RowsAt f H xs ns → RowsAt f H ys ms → RowsAt f H (xs ++ ys) (ns ++ ms)
  | [],_,[],_,_,b=>b
  | _ :: _,_,_ :: _,_,a,b=>⟨a.1,RowsAt.append a.2 b⟩
  | [],_,_ :: _,_,a,_=>a.elim
  | _ :: _,_,[],_,a,_=>a.elim
theorem RowsAt.get:∀ {xs:List V} {ns:List (List V)} {i:Nat} {x:V},RowsAt f H xs ns → xs[i]? = some x → ∃ n,ns[i]? = some n ∧ RowAt f H x n
  | [],[],_,_,_,e=>by simp at e
  | _ :: _,n :: _,0,_,h,e=>by simp at e; subst e; exact ⟨n,rfl,h.1⟩
  | _ :: _,_ :: _,i + 1,x,h,e=>by
    obtain ⟨m,a,b⟩:=RowsAt.get (i:=i) (x:=x) h.2 (by simpa using e)
    exact ⟨m,by simpa using a,b⟩
  | [],_ :: _,_,_,h,_=>h.elim
  | _ :: _,[],_,_,h,_=>h.elim
theorem RowsAt.take:∀ {xs:List V} {ns:List (List V)} (i:Nat),RowsAt f H xs ns → RowsAt f H (xs.take i) (ns.take i)
  | [],[],_,_=>by simp [RowsAt]
  | _ :: _,_ :: _,0,_=>trivial
  | _ :: _,_ :: _,i + 1,h=>⟨h.1,RowsAt.take i h.2⟩
  | [],_ :: _,_,h=>h.elim
  | _ :: _,[],_,h=>h.elim
theorem RowsAt.drop:∀ {xs:List V} {ns:List (List V)} (i:Nat),RowsAt f H xs ns → RowsAt f H (xs.drop i) (ns.drop i)
  | [],[],_,_=>by simp [RowsAt]
  | _ :: _,_ :: _,0,h=>h
  | _ :: _,_ :: _,i + 1,h=>RowsAt.drop i h.2
  | [],_ :: _,_,h=>h.elim
  | _ :: _,[],_,h=>h.elim
theorem RowsAt.mem:∀ {xs:List V} {ns:List (List V)} {x:V},RowsAt f H xs ns → x ∈ xs → ∃ n ∈ ns,RowAt f H x n
  | [],_,_,_,h=>nomatch h
  | y :: xs,n :: ns,x,h,hx=>by
    rcases List.mem_cons.mp hx with e | e
    · rw [e]; exact ⟨n,List.mem_cons_self,h.1⟩
    · obtain ⟨m,hm,r⟩:=RowsAt.mem h.2 e
      exact ⟨m,List.mem_cons_of_mem _ hm,r⟩
  | _ :: _,[],_,h,_=>h.elim
end
theorem RowAt.uniq {H:Hp} {x:V} {n m:List V} (a:RowAt .lst H x n) (b:RowAt .lst H x m):n = m:=by
  obtain ⟨t,e,h⟩:=a
  obtain ⟨t',e',h'⟩:=b
  rw [e] at e'
  cases e'
  rw [h] at h'
  cases h'
  rfl
theorem RowsAt.uniq {H:Hp}:∀ {xs:List V} {ns ms:List (List V)},RowsAt .lst H xs ns → RowsAt .lst H xs ms → ns = ms
  | [],[],[],_,_=>rfl
  | _ :: _,_ :: _,_ :: _,a,b=>by rw [a.1.uniq b.1,RowsAt.uniq a.2 b.2]
  | [],_ :: _,_,a,_=>a.elim
  | [],_,_ :: _,_,b=>b.elim
  | _ :: _,[],_,a,_=>a.elim
  | _ :: _,_,[],_,b=>b.elim
def lineOk (w:Nat) (l:List V):Prop:=l.length = w ∧ l.all markV = true
def tabOk (ls:List (List V)):Prop:=∃ w,w ≤ 12 ∧ ∀ l ∈ ls,lineOk w l
def Thg5 (H:Hp) (v:V):Prop:=Thg H v ∧ ∀ a xs,v = .ref a → H a = some (.lst xs) → ∀ x ∈ xs,Thg2 H x
def GoodT (H:Hp) (v:V):Prop:=∃ a xs ls,v = .ref a ∧ H a = some (.lst xs) ∧ xs.length ≤ 12 ∧ RowsAt .lst H xs ls ∧ tabOk ls
theorem Thg5.same {H H':Hp} {v:V} (s:Same H H') (t:Thg5 H v):Thg5 H' v:=⟨t.1.same s,fun a xs e h x hx=>(t.2 a xs e (t.1.back s e h) x hx).same s⟩
theorem RowsAt.back {H H':Hp} (s:Same H H'):∀ {xs:List V} {ns:List (List V)},(∀ x ∈ xs,Thg H x) → RowsAt .lst H' xs ns → RowsAt .lst H xs ns
  | [],[],_,h=>h
  | x :: xs,_ :: _,t,h=>by
    obtain ⟨⟨a,e,h1⟩,h2⟩:=h
    exact ⟨⟨a,e,(t x List.mem_cons_self).back s e h1⟩,RowsAt.back s (fun y hy=>t y (List.mem_cons_of_mem _ hy)) h2⟩
  | [],_ :: _,_,h=>h.elim
  | _ :: _,[],_,h=>h.elim
theorem GoodT.back {H H':Hp} {v:V} (t:Thg5 H v) (s:Same H H') (g:GoodT H' v):GoodT H v:=by
  obtain ⟨a,xs,ns,e,h,l,m,d⟩:=g
  have h0:=t.1.back s e h
  exact ⟨a,xs,ns,e,h0,l,m.back s fun x hx=>(t.2 a xs e h0 x hx).1,d⟩
theorem notT_mem {H:Hp} {a:Addr} {xs:List V} {b:V} (h:H a = some (.lst xs)) (hm:b ∈ xs) (hb:¬ GoodM 12 H b):¬ GoodT H (.ref a):=by
  rintro ⟨a',xs',ns,e,h',l,r,w,hw,hall⟩
  cases e
  rw [h] at h'
  cases h'
  obtain ⟨n,hn,c,e,hc⟩:=r.mem hm
  obtain ⟨h1,h2⟩:=hall n hn
  exact hb ⟨c,n,e,hc,by omega,h2⟩
theorem notT_two {H:Hp} {a:Addr} {xs:List V} {b c:V} {l1 l2:List V} (h:H a = some (.lst xs)) (hm:b ∈ xs) (hm2:c ∈ xs) (h1:RowAt .lst H b l1) (h2:RowAt .lst H c l2) (hne:l1.length ≠ l2.length):¬ GoodT H (.ref a):=by
  rintro ⟨a',xs',ns,e,h',l,r,w,hw,hall⟩
  cases e
  rw [h] at h'
  cases h'
  obtain ⟨n,hn,r1⟩:=r.mem hm
  obtain ⟨m,hm',r2⟩:=r.mem hm2
  have e1:=r1.uniq h1
  have e2:=r2.uniq h2
  subst e1 e2
  exact hne ((hall _ hn).1.trans (hall _ hm').1.symm)
theorem thg_mark {H:Hp} {l:List V} (h:l.all markV = true):∀ x ∈ l,Thg H x:=fun x hx=>by
  have h1:=List.all_eq_true.mp h x hx
  cases x with
  | str z =>
    have:=(mark_all (show markS z = true from h1)).2.1
    exact .str _ (by omega)
  | _=>cases h1
theorem RowsAt.thg2 {H:Hp} {xs:List V} {ls:List (List V)} (r:RowsAt .lst H xs ls) (hm:∀ l ∈ ls,l.all markV = true):∀ x ∈ xs,Thg2 H x:=fun x hx=>by
  obtain ⟨n,hn,c,e,hc⟩:=r.mem hx
  subst e
  exact thg2_lst hc (thg_mark (hm n hn))
def datM:V → PyData
  | .str z=>.str z
  | _=>.none
theorem datVs_marks {K:PySem.W.Frag} {H:Hp}:∀ {l:List V},l.all markV = true → DatVs K H l (l.map datM)
  | [],_=>.nil
  | x :: r,h=>by
    rw [List.all_cons,Bool.and_eq_true] at h
    cases x with
    | str z=>exact .cons (.str _) (datVs_marks h.2)
    | _=>cases h.1
theorem canLay_marks:∀ {l:List V},l.all markV = true → PyData.canLayAll0 (l.map datM) = true
  | [],_=>rfl
  | x :: r,h=>by
    rw [List.all_cons,Bool.and_eq_true] at h
    have ih:=canLay_marks h.2
    cases x with
    | str z =>
      have h1:=mark_strOk (show markS z = true from h.1)
      simp only [List.map_cons,datM,PyData.canLayAll0,PyData.canLay0,h1,ih,Bool.and_self]
    | _=>cases h.1
theorem depth_marks:∀ l:List V,PyData.depthAll (l.map datM) ≤ 0
  | []=>Nat.le_refl _
  | x :: r=>by
    have ih:=depth_marks r
    cases x <;> simp only [List.map_cons,datM,PyData.depthAll,PyData.depth] <;> omega
theorem RowsAt.datT {K:PySem.W.Frag} {H:Hp}:∀ {xs:List V} {ls:List (List V)},(∀ l ∈ ls,l.all markV = true) → RowsAt .tup H xs ls → DatVs K H xs (ls.map fun l=>PyData.tuple (l.map datM))
  | [],[],_,_=>.nil
  | _ :: _,n :: _,hm,h=>by
    obtain ⟨⟨t,e,h1⟩,h2⟩:=h
    subst e
    exact .cons (.tup (SqT.of h1) (datVs_marks (hm n List.mem_cons_self))) (RowsAt.datT (fun y hy=>hm y (List.mem_cons_of_mem _ hy)) h2)
  | [],_ :: _,_,h=>h.elim
  | _ :: _,[],_,h=>h.elim
def wideT (ls:List (List V)):Nat:=(ls.headD []).length
theorem wideT_le {ls:List (List V)} (h:tabOk ls):wideT ls ≤ 12:=by
  obtain ⟨w,hw,ha⟩:=h
  cases ls with
  | nil=>exact Nat.zero_le _
  | cons l r=>show l.length ≤ 12; rw [(ha l List.mem_cons_self).1]; exact hw
theorem wideT_all {ls:List (List V)} (h:tabOk ls):∀ l ∈ ls,lineOk (wideT ls) l:=fun l hl=>by
  obtain ⟨w,hw,ha⟩:=h
  cases ls with
  | nil=>exact nomatch hl
  | cons l0 r =>
    have e:wideT (l0 :: r) = w:=(ha l0 List.mem_cons_self).1
    rw [e]
    exact ha l hl
theorem tab_marks {ls:List (List V)} (h:tabOk ls):∀ l ∈ ls,l.all markV = true:=fun l hl=>(wideT_all h l hl).2
theorem flat_marks {ls:List (List V)} (h:∀ l ∈ ls,l.all markV = true):ls.flatten.all markV = true:=by
  rw [List.all_eq_true]
  intro x hx
  obtain ⟨l,hl,hx'⟩:=List.mem_flatten.mp hx
  exact List.all_eq_true.mp (h l hl) x hx'
theorem flat_len {ls:List (List V)} (h:∀ l ∈ ls,l.length ≤ 12):ls.flatten.length ≤ 12 * ls.length:=by
  induction ls with
  | nil=>exact Nat.le_refl _
  | cons l r ih =>
    have h1:=h l List.mem_cons_self
    have h2:=ih fun y hy=>h y (List.mem_cons_of_mem _ hy)
    rw [List.flatten_cons,List.length_append,List.length_cons]
    omega
theorem putF3 {a b c:Str} {x y z:V} (h:¬ a = c) (h':¬ b = c):putF c z [(a,x),(b,y)] = [(a,x),(b,y),(c,z)]:=by
  show (if a = c then [(a,z),(b,y)] else (a,x) :: (if b = c then [(b,z)] else (b,y) :: putF c z [])) = _
  rw [if_neg h,if_neg h']
  rfl
theorem lookup_no3 {α:Type} {a b d c:Str} {x y z:α} (h:(c == a) = false) (h':(c == b) = false) (h'':(c == d) = false):List.lookup c [(a,x),(b,y),(d,z)] = none:=by
  rw [List.lookup_cons,h,List.lookup_cons,h',List.lookup_cons,h'']
  rfl
theorem lookup3b {α:Type} {a b c:Str} {x y z:α} (h:(b == a) = false):List.lookup b [(a,x),(b,y),(c,z)] = some y:=by
  rw [List.lookup_cons,h,List.lookup_cons,beq_self_eq_true]
theorem lookup3 {α:Type} {a b c:Str} {x y z:α} (h:(c == a) = false) (h':(c == b) = false):List.lookup c [(a,x),(b,y),(c,z)] = some z:=by
  rw [List.lookup_cons,h,List.lookup_cons,h',List.lookup_cons,beq_self_eq_true]
theorem GoodM.same {n:Nat} {H H':Hp} {v:V} (s:Same H H') (g:GoodM n H v):GoodM n H' v:=by
  obtain ⟨a,xs,e,h,r⟩:=g
  exact ⟨a,xs,e,s _ _ h,r⟩
theorem RowsAt.keepm {f:List V → HO} {H H':Hp}:∀ {xs:List V} {ns:List (List V)},(∀ b ys,V.ref b ∈ xs → H b = some (f ys) → H' b = some (f ys)) → RowsAt f H xs ns → RowsAt f H' xs ns
  | [],[],_,h=>h
  | _ :: _,_ :: _,s,h=>by
    obtain ⟨⟨t,e,h1⟩,h2⟩:=h
    exact ⟨⟨t,e,s _ _ (by rw [e]; exact List.mem_cons_self) h1⟩,RowsAt.keepm (fun b ys hb=>s b ys (List.mem_cons_of_mem _ hb)) h2⟩
  | [],_ :: _,_,h=>h.elim
  | _ :: _,[],_,h=>h.elim
def NotIn (l:Addr) (xs:List V):Prop:=∀ b,V.ref b ∈ xs → b ≠ l
theorem NotIn.nil {l:Addr}:NotIn l []:=fun _ h=>nomatch h
theorem NotIn.add {l p:Addr} {xs:List V} (h:NotIn l xs) (hp:p ≠ l):NotIn l (xs ++ [.ref p]):=fun b hb=>by
  rcases List.mem_append.mp hb with h' | h'
  · exact h b h'
  · cases List.mem_singleton.mp h'
    exact hp
theorem RowsAt.updl {f:List V → HO} {H:Hp} {l:Addr} {o:HO} {xs:List V} {ns:List (List V)} (n:NotIn l xs) (h:RowsAt f H xs ns):RowsAt f (upd H l o) xs ns:=h.keepm fun b ys hb e=>by rw [upd_ne (n b hb)]; exact e
theorem NotIn.of {f:List V → HO} {H:Hp} {D:Addr} {xs:List V} {ls:List (List V)} (r:RowsAt f H xs ls) (h:H D = none):NotIn D xs:=fun b hb=>by
  obtain ⟨n,_,a,e,ha⟩:=r.mem hb
  cases e
  exact ne_of_none ha h
theorem same_ne {H H':Hp} {l:Addr} {o:HO} (s:Same H H') (h:H l = none):Same H (upd H' l o):=fun b u e=>by rw [upd_ne (ne_of_none e h)]; exact s b u e
end SH
namespace L2
open PySem PySem.Spec PyProof.Rows
theorem pe_either {X:Cx} {e:Expr} {t1 t2:TE} (h1:PE X e t1) (h2:PE X e t2):PE X e (fun σ H Q=>t1 σ H Q ∨ t2 σ H Q):=fun pins s σ H Q I h=>h.elim (h1 pins s σ H Q I) (h2 pins s σ H Q I)
end L2
namespace SH
open PySem L2
def placesOk:Int → Int → List Int → Prop
  | _,_,[]=>True
  | lo,m,p :: r=>lo ≤ p ∧ p < m ∧ placesOk (p + 1) m r
def GoodP (m:Int) (H:Hp) (v:V):Prop:=∃ a ps,v = .ref a ∧ H a = some (.lst (ps.map V.int)) ∧ placesOk 0 m ps
theorem GoodP.back {m:Int} {H H':Hp} {v:V} (t:Thg H v) (s:Same H H') (g:GoodP m H' v):GoodP m H v:=by
  obtain ⟨a,ps,e,h,r⟩:=g
  exact ⟨a,ps,e,t.back s e h,r⟩
theorem cut_from {xs:List V} {n:Nat} {i:Int} (h:i = (n:Int)):cutV xs (some i) none = xs.drop n:=by
  subst h
  unfold cutV
  rw [HT.sIx_none,HT.sIx_nat]
  apply List.ext_getElem?
  intro j
  rw [List.getElem?_take]
  by_cases h1:n ≤ xs.length
  · rw [Nat.min_eq_left h1]
    by_cases h2:j < xs.length - n
    · rw [if_pos h2]
    · rw [if_neg h2,List.getElem?_drop]
      exact (List.getElem?_eq_none (by omega)).symm
  · rw [Nat.min_eq_right (by omega),if_neg (by omega),List.getElem?_drop]
    exact (List.getElem?_eq_none (by omega)).symm
def colsOf (n:Nat) (ps:List Int):List Int:=(ps.filter fun i=>decide ((n:Int) ≤ i)).map fun i=>i - n
def linesOf (n:Nat) (ps:List Int):List Int:=ps.filter fun i=>decide (i < (n:Int))
def leftT (ls:List (List V)) (ps:List Int):List (List V):=(linesOf ls.length ps).map fun i=>(colsOf ls.length ps).map fun j=>(ls.getD i.toNat []).getD j.toNat .non
end SH
namespace L2
open PySem PySem.Spec PyProof.Rows
section
variable {κ:Type} [DecidableEq κ]
def valV (kvs:List (κ × V)) (k:κ):Option V:=(kvs.find? fun kv=>decide (kv.1 = k)).map (·.2)
def putK (kvs:List (κ × V)) (k:κ) (v:V):List (κ × V) :=
  if (kvs.any fun kv=>decide (kv.1 = k)) = true then kvs.map (fun kv=>if kv.1 = k then (kv.1,v) else kv) else kvs ++ [(k,v)]
def dropK (kvs:List (κ × V)) (k:κ):List (κ × V):=kvs.filter fun kv=>decide (kv.1 ≠ k)
theorem valV_pos {p:κ × V} {r:List (κ × V)} {k:κ} (e:p.1 = k):valV (p :: r) k = some p.2:=by simp [valV,List.find?_cons,e]
theorem valV_neg {p:κ × V} {r:List (κ × V)} {k:κ} (e:¬ p.1 = k):valV (p :: r) k = valV r k:=by simp [valV,List.find?_cons,e]
theorem valV_any (k:κ):∀ kvs:List (κ × V),(kvs.any fun kv=>decide (kv.1 = k)) = (valV kvs k).isSome
  | []=>rfl
  | p :: r=>by
    rw [List.any_cons]
    by_cases e:p.1 = k
    · simp only [valV_pos e,decide_eq_true e,Bool.true_or,Option.isSome_some]
    · rw [valV_neg e,decide_eq_false e,Bool.false_or]; exact valV_any k r
theorem RelO.isSome_eq {o:Option V} {u:Option Value} (r:RelO o u):o.isSome = u.isSome:=by
  cases o with
  | none=>cases u with
    | none=>rfl
    | some _=>exact (show False from r).elim
  | some _=>cases u with
    | none=>exact (show False from r).elim
    | some _=>rfl
theorem RelO.getD {o:Option V} {u:Option Value} {d:V} {d':Value} (r:RelO o u) (rd:RelV d d'):RelV (o.getD d) (u.getD d'):=by
  cases o with
  | none=>cases u with
    | none=>exact rd
    | some _=>exact (show False from r).elim
  | some _=>cases u with
    | none=>exact (show False from r).elim
    | some _=>exact r
theorem KV.val {kvs:List (κ × V)} {vs:List (κ × Value)} (r:KV kvs vs) (k:κ):RelO (valV kvs k) (valueAt vs k):=by
  unfold KV at r
  induction r with
  | nil=>exact True.intro
  | @cons p q ps qs h t ih =>
    obtain ⟨h1,h2⟩:=h
    by_cases e:p.1 = k
    · have e':q.1 = k:=h1.symm.trans e
      have b:valueAt (q :: qs) k = some q.2:=by simp [valueAt,List.find?_cons,e']
      rw [valV_pos e,b]; exact h2
    · have e':¬ q.1 = k:=fun z=>e (h1.trans z)
      have b:valueAt (q :: qs) k = valueAt qs k:=by simp [valueAt,List.find?_cons,e']
      rw [valV_neg e,b]; exact ih
theorem KV.any {kvs:List (κ × V)} {vs:List (κ × Value)} (r:KV kvs vs) (k:κ):(kvs.any fun kv=>decide (kv.1 = k)) = vs.any fun kv=>decide (kv.1 = k):=by
  unfold KV at r
  induction r with
  | nil=>rfl
  | cons h t ih=>rw [List.any_cons,List.any_cons,ih,h.1]
theorem KV.repl {kvs:List (κ × V)} {vs:List (κ × Value)} (r:KV kvs vs) (k:κ) {y:V} {u:Value} (ry:RelV y u) :
    KV (kvs.map fun kv=>if kv.1 = k then (kv.1,y) else kv) (vs.map fun kv=>if kv.1 = k then (kv.1,u) else kv):=by
  unfold KV at r ⊢
  induction r with
  | nil=>exact .nil
  | @cons p q ps qs h t ih =>
    rw [List.map_cons,List.map_cons]
    refine .cons ?_ ih
    obtain ⟨h1,h2⟩:=h
    by_cases e:p.1 = k
    · rw [if_pos e,if_pos (h1.symm.trans e)]; exact ⟨h1,ry⟩
    · rw [if_neg e,if_neg (fun z=>e (h1.trans z))]; exact ⟨h1,h2⟩
theorem KV.put {kvs:List (κ × V)} {vs:List (κ × Value)} (r:KV kvs vs) (k:κ) {y:V} {u:Value} (ry:RelV y u):KV (putK kvs k y) (stored vs k u):=by
  unfold putK stored
  rw [r.any k]
  by_cases e:(vs.any fun kv=>decide (kv.1 = k)) = true
  · rw [if_pos e,if_pos e]; exact r.repl k ry
  · rw [if_neg e,if_neg e]; exact Paired.snoc r ⟨rfl,ry⟩
theorem KV.drop {kvs:List (κ × V)} {vs:List (κ × Value)} (r:KV kvs vs) (k:κ):KV (dropK kvs k) (without vs k):=by
  unfold KV at r ⊢
  unfold dropK without
  induction r with
  | nil=>exact .nil
  | @cons p q ps qs h t ih =>
    obtain ⟨h1,h2⟩:=h
    rw [List.filter_cons,List.filter_cons]
    by_cases e:p.1 = k
    · have a:¬ decide (p.1 ≠ k) = true:=by simp [e]
      have b:¬ decide (q.1 ≠ k) = true:=by simp [h1.symm.trans e]
      rw [if_neg a,if_neg b]; exact ih
    · have e':¬ q.1 = k:=fun z=>e (h1.trans z)
      have a:decide (p.1 ≠ k) = true:=by simp [e]
      have b:decide (q.1 ≠ k) = true:=by simp [e']
      rw [if_pos a,if_pos b]; exact .cons ⟨h1,h2⟩ ih
theorem KV.length {kvs:List (κ × V)} {vs:List (κ × Value)} (r:KV kvs vs):kvs.length = vs.length:=Paired.length r
end
abbrev KT (H:Hp):List (List Key × V) → List (List Key × Addr × Value) → Prop:=Paired fun p q=>p.1 = q.1 ∧ H q.2.1 = some (.tup (p.1.map kV)) ∧ RelV p.2 q.2.2
theorem KT.val {H:Hp} {kvs:List (List Key × V)} {xs:List (List Key × Addr × Value)} (r:KT H kvs xs) (k:List Key):RelO (valV kvs k) ((atKey xs k).map (·.2)):=by
  induction r with
  | nil=>exact True.intro
  | @cons p q ps qs h t ih =>
    obtain ⟨h1,_,h2⟩:=h
    by_cases e:p.1 = k
    · have e':q.1 = k:=h1.symm.trans e
      have b:atKey (q :: qs) k = some q.2:=by simp [atKey,List.find?_cons,e']
      rw [valV_pos e,b]; exact h2
    · have e':¬ q.1 = k:=fun z=>e (h1.trans z)
      have b:atKey (q :: qs) k = atKey qs k:=by simp [atKey,List.find?_cons,e']
      rw [valV_neg e,b]; exact ih
theorem KT.repl {H:Hp} {kvs:List (List Key × V)} {xs:List (List Key × Addr × Value)} (r:KT H kvs xs) (k:List Key) {y:V} {u:Value} (ry:RelV y u) :
    KT H (kvs.map fun kv=>if kv.1 = k then (kv.1,y) else kv) (xs.map (putAt k u)):=by
  induction r with
  | nil=>exact .nil
  | @cons p q ps qs h t ih =>
    rw [List.map_cons,List.map_cons]
    refine .cons ?_ ih
    obtain ⟨h1,h2,h3⟩:=h
    unfold putAt
    by_cases e:p.1 = k
    · rw [if_pos e,if_pos (h1.symm.trans e)]; exact ⟨h1,h2,ry⟩
    · rw [if_neg e,if_neg (fun z=>e (h1.trans z))]; exact ⟨h1,h2,h3⟩
theorem KT.put {H:Hp} {kvs:List (List Key × V)} {xs:List (List Key × Addr × Value)} (r:KT H kvs xs) (k:List Key) {b:Addr} {y:V} {u:Value} (hb:H b = some (.tup (k.map kV))) (ry:RelV y u) :
    KT H (putK kvs k y) (storedH xs k b u):=by
  have e:(kvs.any fun kv=>decide (kv.1 = k)) = (atKey xs k).isSome:=by
    rw [valV_any,(r.val k).isSome_eq,Option.isSome_map]
  unfold putK storedH
  rw [e]
  by_cases q:(atKey xs k).isSome = true
  · rw [if_pos q,if_pos q]; exact r.repl k ry
  · rw [if_neg q,if_neg q]; exact Paired.snoc r ⟨rfl,hb,ry⟩
theorem KT.keeps {H H':Hp} {kvs:List (List Key × V)} {xs:List (List Key × Addr × Value)} (r:KT H kvs xs) (ht:∀ b ys,H b = some (.tup ys) → H' b = some (.tup ys)):KT H' kvs xs :=
  Paired.mapP r fun _ _ z=>⟨z.1,ht _ _ z.2.1,z.2.2⟩
section
variable {P:Program} {w:World} {H:Hp} {h:Heap} {a:Addr}
end
def DGet (H:Hp) (a:Addr) (y:V) (r:Option V):Prop :=
  (∃ kvs k,Rd H a (.dK kvs) ∧ y = kV k ∧ r = valV kvs k) ∨ ∃ kvs k b,Rd H a (.dT kvs) ∧ y = .ref b ∧ H b = some (.tup (k.map kV)) ∧ r = valV kvs k
def DPut (H:Hp) (a:Addr) (y v:V) (H':Hp):Prop :=
  (∃ kvs k,H a = some (.dK kvs) ∧ y = kV k ∧ kvs.length < sizeLine ∧ H' = upd H a (.dK (putK kvs k v))) ∨
  ∃ kvs k b,H a = some (.dT kvs) ∧ y = .ref b ∧ H b = some (.tup (k.map kV)) ∧ kvs.length < sizeLine ∧ H' = upd H a (.dT (putK kvs k v))
theorem DGet.k {H:Hp} {a:Addr} {kvs:List (Key × V)} {k:Key} (e:H a = some (.dK kvs)):DGet H a (kV k) (valV kvs k):=.inl ⟨kvs,k,.inl e,rfl,rfl⟩
theorem DGet.t {H:Hp} {a b:Addr} {kvs:List (List Key × V)} {k:List Key} (e:H a = some (.dT kvs)) (eb:H b = some (.tup (k.map kV))):DGet H a (.ref b) (valV kvs k):=.inr ⟨kvs,k,b,.inl e,rfl,eb,rfl⟩
theorem DPut.k {H:Hp} {a:Addr} {kvs:List (Key × V)} {k:Key} {v:V} (e:H a = some (.dK kvs)) (hl:kvs.length < sizeLine):DPut H a (kV k) v (upd H a (.dK (putK kvs k v))):=.inl ⟨kvs,k,e,rfl,hl,rfl⟩
theorem DPut.t {H:Hp} {a b:Addr} {kvs:List (List Key × V)} {k:List Key} {v:V} (e:H a = some (.dT kvs)) (eb:H b = some (.tup (k.map kV))) (hl:kvs.length < sizeLine) :
    DPut H a (.ref b) v (upd H a (.dT (putK kvs k v))):=.inr ⟨kvs,k,b,e,rfl,eb,hl,rfl⟩
section
variable {X:Cx} {pins:List (Addr × Obj)} {σ:St} {H:Hp} {s:Shared} {a:Addr} {y v:V} {u r:Value} {o:Option V} {A:Around} {E:Value → Shared → Prop}
end
section
variable {X:Cx} {pins:List (Addr × Obj)} {σ:St} {H:Hp} {s:Shared} {a:Addr} {kvs:List (Key × V)} {k:Key} {u:Value} {A:Around} {E:Value → Shared → Prop}
end
def tDIn (ty td:TE):TE:=fun σ H Q=>ty σ H fun y H1=>td σ H1 fun x H2=>∃ a o,x = .ref a ∧ DGet H2 a y o ∧ Q (.bl o.isSome) H2
section
variable {X:Cx} {o i e value:Expr} {pos pos' tpos:Pos} {td ty tv:TE}
end
section
variable {X:Cx} {pos:Pos}
end
abbrev VV:List (V × V) → List (Value × Value) → Prop:=Paired fun p q=>RelV p.1 q.1 ∧ RelV p.2 q.2
structure M1 (X:Cx) (o:Expr) (m:Str) (apos:Pos) (e:Expr) (cpos:Pos):Prop where
  base:attributeBase o m X.env (eval o X.env) = eval o X.env
  few:((backTo cpos (starEach [e] X.env)).all (fun x=>!x.1) && (backToKw cpos (keywordEach [] X.env)).all (fun x=>x.1.isSome)
    && decide (([e]:List Expr).length + ([]:List Keyword).length + (if ([]:List Keyword).isEmpty then 0 else 1) < 30)) = true
  line:(apos.endLine == cpos.line) = true
  trees:backTo cpos (starEach [e] X.env) = [(false,eval e X.env)]
structure M2 (X:Cx) (o:Expr) (m:Str) (apos:Pos) (e f:Expr) (cpos:Pos):Prop where
  base:attributeBase o m X.env (eval o X.env) = eval o X.env
  few:((backTo cpos (starEach [e,f] X.env)).all (fun x=>!x.1) && (backToKw cpos (keywordEach [] X.env)).all (fun x=>x.1.isSome)
    && decide (([e,f]:List Expr).length + ([]:List Keyword).length + (if ([]:List Keyword).isEmpty then 0 else 1) < 30)) = true
  line:(apos.endLine == cpos.line) = true
  trees:backTo cpos (starEach [e,f] X.env) = [(false,eval e X.env),(false,eval f X.env)]
section
variable {X:Cx} {pins:List (Addr × Obj)} {σ:St} {H:Hp} {s:Shared} {a:Addr} {y d:V} {u r:Value} {o:Option V} {A:Around} {E:Value → Shared → Prop}
end
section
variable {X:Cx} {o e f:Expr} {apos cpos:Pos} {td ty tx:TE}
end
section
variable {X:Cx} {pins:List (Addr × Obj)} {σ:St} {H:Hp} {s:Shared} {a:Addr} {kvs:List (Key × V)} {A:Around} {E:Value → Shared → Prop}
end
section
variable {X:Cx} {pins:List (Addr × Obj)} {σ:St} {H:Hp} {s:Shared} {a:Addr} {y:V} {u:Value} {A:Around} {E:Value → Shared → Prop}
end
end L2
namespace PySem
open Sem (wp)
end PySem
namespace L2
open PySem PySem.Spec PyProof.Rows
section
variable {prog:Program} {w:World} {A:Around} {E:Value → Shared → Prop}
end
end L2
namespace L2
open PySem PySem.Spec PyProof.Rows
section
variable {X:Cx}
def rDictP (K:PySem.W.Frag):List V → Hp → VK → Prop:=fun xs H Q=>∃ (l:Addr) (ys:List V) (prs:List (Key × V)),xs = [.ref l] ∧ SqL K H l ys ∧ ys.length = prs.length ∧ prs.length ≤ 900 ∧
  (∀ (j:Nat) (y:V) (p:Key × V),ys[j]? = some y → prs[j]? = some p → ∃ t,y = .ref t ∧ H t = some (.tup [kV p.1,p.2])) ∧ ∀ d,H d = none → Q (.ref d) (upd H d (.dK (prs.foldl (fun a p=>putK a p.1 p.2) [])))
end
end L2
namespace PySem
open Sem (wp)
section
variable {prog:Program} {w:World} {A:Around} {E:Value → Shared → Prop} {s:Shared}
theorem drawT_item {it t:Addr} {i:Nat} {items:Array Value} {x:Value} {Q:Value → Shared → Prop} (hI:s.heap.IsTupleIter it t i) (hT:s.heap.IsTuple t items) (hx:items[i]? = some x)
    (q:∀ h',h'.IsTupleIter it t (i + 1) → Heap.SameBut it s.heap h' → Q x { s with heap:=h' }):wpAny (model prog w) A (Builtin.SmallTypes.nextOf (.ref it)) Q E s:=by
  obtain ⟨oi,hoi,hci,hdi⟩:=id hI
  obtain ⟨ot,hot,_,nt,hdt⟩:=hT
  unfold Builtin.SmallTypes.nextOf
  refine wpAny_bind (wpAny_callSpecial?_slot (name:=Str.ofString "__next__") hI.typeIs F.slot_tuple_iterator_next (wpAny_call_entry F.slot_tuple_iterator_next hI.typeIs F.entry_tuple_iterator_next ?_ (F.args_tuple_iterator_next_1 _)))
  refine wpAny_bind (m:=field (.ref it) 0) (wpAny_field hoi hdi (x:=.ref t) rfl ?_)
  dsimp only
  rw [if_neg (show ¬ ((Value.ref t == Value.none) = true) by exact Bool.false_ne_true)]
  refine wpAny_bind (m:=field (.ref it) 1) (wpAny_field hoi hdi (x:=.int i 0) rfl ?_)
  refine wpAny_bind (m:=seqItems? (.ref t)) (wpAny_seqItems hot hdt ?_)
  simp only [Int.toNat_natCast,hx]
  refine wpAny_bind (wpAny_setField hoi hdi (by simp) (wpAny_pure ⟨x,rfl,wpAny_pure (q _ ⟨_,Heap.get?_update_self _ hoi (Obj.isFreed_of_fields (Obj.data_mapFields hdi _)),(Obj.cls_mapFields ..).trans hci,?_⟩ (Heap.SameBut.update ..))⟩))
  rw [Obj.data_mapFields hdi]
  simp [rawInt]
theorem drawT_end {it t:Addr} {i:Nat} {items:Array Value} {Q:Value → Shared → Prop} (hh:A.handled = none) (hI:s.heap.IsTupleIter it t i) (hT:s.heap.IsTuple t items) (hx:items[i]? = none)
    (q:∀ h' e,Heap.ExtBut it s.heap h' → (∃ o,h'.get? e = some o ∧ o.cls = .type "StopIteration") → E (.ref e) { s with heap:=h' }):wpAny (model prog w) A (Builtin.SmallTypes.nextOf (.ref it)) Q E s:=by
  obtain ⟨oi,hoi,hci,hdi⟩:=id hI
  obtain ⟨ot,hot,_,nt,hdt⟩:=hT
  unfold Builtin.SmallTypes.nextOf
  refine wpAny_bind (wpAny_callSpecial?_slot (name:=Str.ofString "__next__") hI.typeIs F.slot_tuple_iterator_next (wpAny_call_entry F.slot_tuple_iterator_next hI.typeIs F.entry_tuple_iterator_next ?_ (F.args_tuple_iterator_next_1 _)))
  refine wpAny_bind (m:=field (.ref it) 0) (wpAny_field hoi hdi (x:=.ref t) rfl ?_)
  dsimp only
  rw [if_neg (show ¬ ((Value.ref t == Value.none) = true) by exact Bool.false_ne_true)]
  refine wpAny_bind (m:=field (.ref it) 1) (wpAny_field hoi hdi (x:=.int i 0) rfl ?_)
  refine wpAny_bind (m:=seqItems? (.ref t)) (wpAny_seqItems hot hdt ?_)
  simp only [Int.toNat_natCast,hx]
  refine wpAny_bind (wpAny_rule (wpAny_bind (wpAny_setField hoi hdi (by simp) (wpAny_bind (m:=newExc (.type "StopIteration") []) ?_))))
  simp only [newExc,newTuple]
  refine wpAny_bind (wpAny_newObj_type (wpAny_bind (m:=firstArgMember _ _) (wpAny_of_eq (a:=Value.none) (by first | rfl | (simp only [firstArgMember]; rfl)) (wpAny_newObj_type ?_ (by size_fits)))) (by size_fits))
  simp only [raiseNew]
  refine wpAny_bind (wpAny_handled ?_)
  first | rw [show A.in1.handled = none by exact hh] | rw [hh]
  exact wpAny_bind (wpAny_pure (wpAny_throw (q _ _ (((Heap.SameBut.update ..).extBut.push _).push _) ⟨_,Heap.get?_push_size _ rfl,rfl⟩)))
theorem Draws.tup (hh:A.handled = none) (it t:Addr) (hne:t ≠ it) (items:Array Value):Draws prog w A it [it,t] items.size (fun i v=>items[i]? = some v) (fun i h=>h.IsTupleIter it t i ∧ h.IsTuple t items) where
  live:=fun _ _ st=>let ⟨o,ho,_⟩:=st.1; ⟨o,ho⟩
  frame:=fun _ _ _ st hk=>⟨st.1.at fun o e=>hk it (by simp) o e,let ⟨o,ho,r⟩:=st.2; ⟨o,hk t (by simp) o ho,r⟩⟩
  item:=fun i s Q E hi st hQ=>by
    refine drawT_item st.1 st.2 (x:=items[i]) (by simp [hi]) fun h' hit' hs'=>hQ _ h' s.toks (by simp [hi]) ⟨hit',?_⟩ hs'
    obtain ⟨o,ho,r⟩:=st.2
    exact ⟨o,(hs'.2 t hne).trans ho,r⟩
  done:=fun s Q E st hE=>drawT_end hh st.1 st.2 (by simp) hE
theorem meets_enumT (l:Addr) (items:Array Value) (n:Nat) (dct:Option Addr) (sl:Array (Option Value)) :
    Meets (Builtin.«enumerate.__new__» ⟨[.type "enumerate",.ref l],[]⟩) (fun _ R s=>s.heap.get? l = some { cls:=.type "tuple",dict:=dct,data:=.seq items n,slots:=sl } ∧
      R (.ok (.ret (.ref (s.heap.push { cls:=.type "tuple_iterator",data:=.fields #[.ref l,.int 0 0] }).objs.size)))
        { s with heap:=(s.heap.push { cls:=.type "tuple_iterator",data:=.fields #[.ref l,.int 0 0] }).push { cls:=.type "enumerate",data:=.fields #[.none,.bool false,.ref s.heap.objs.size,rawInt 0,.none,.none] } }) :=
  .of_wp fun prog w A R s h=>by
    obtain ⟨hp,g,d,tk,os⟩:=s; obtain ⟨hl,h⟩:=h
    have hsub:=sub_enumerate
    have hL:Heap.IsTuple (Shared.heap ⟨hp,g,d,tk,os⟩) l items:=⟨_,hl,rfl,n,rfl⟩
    wp_walk using wpAny_loadPart' hl
    refine wpAny_stack_any fun st=>wpAny_pure ?_
    split
    · rename_i c _ _ _ _ _
      cases (c == Value.type "enumerate") <;> (wp_walk using wpAny_loadPart' hl,wpAny_pyIter_tuple hL; exact ⟨_,rfl,h⟩)
    · wp_walk using wpAny_loadPart' hl,wpAny_pyIter_tuple hL
      exact ⟨_,rfl,h⟩
theorem call_enumT {l:Addr} {items:Array Value} {Q:Value → Shared → Prop} (hL:s.heap.IsTuple l items)
    (h:∀ h',IsEnum h' (s.heap.objs.size + 1) s.heap.objs.size 0 .none → h'.IsTupleIter s.heap.objs.size l 0 → h'.objs.size = s.heap.objs.size + 2 → (∀ b o,s.heap.get? b = some o → h'.get? b = some o) → Q (.ref (s.heap.objs.size + 1)) { s with heap:=h' }) :
    wpAny (model prog w) A (call (.type "enumerate") [.ref l]) Q E s:=by
  obtain ⟨⟨c,dct,dt,sl⟩,hl,hc,n,hd⟩:=hL
  replace hc:c = .type "tuple":=hc
  replace hd:dt = .seq items n:=hd
  subst hc hd
  refine callType_new F.called_enumerate (by decide) (F.typeCall_enumerate_1 _) (F.newCall_enumerate_1 _) (fun obj=>F.args_object_init_2 obj _) F.entry_enumerate_new (meets_enumT l items n dct sl) ⟨hl,?_⟩
  generalize hI:({ cls:=.type "tuple_iterator",data:=.fields #[.ref l,.int 0 0] }:Obj) = oi
  have hz:(s.heap.push oi).objs.size = s.heap.objs.size + 1:=Heap.size_push ..
  show _ ∧ _
  rw [hz]
  have he:IsEnum ((s.heap.push oi).push { cls:=.type "enumerate",data:=.fields #[.none,.bool false,.ref s.heap.objs.size,rawInt 0,.none,.none] }) (s.heap.objs.size + 1) s.heap.objs.size 0 .none:=by
    have g:=Heap.get?_push_size (s.heap.push oi) (o:={ cls:=.type "enumerate",data:=.fields #[.none,.bool false,.ref s.heap.objs.size,rawInt 0,.none,.none] }) rfl
    rw [hz] at g
    exact g
  subst hI
  exact ⟨⟨_,he,rfl⟩,h _ he ⟨_,Heap.get?_push_of_some _ (Heap.get?_push_size _ rfl),rfl,rfl⟩ (by rw [Heap.size_push,hz]) fun b o x=>Heap.get?_push_of_some _ (Heap.get?_push_of_some _ x)⟩
end
end PySem
namespace L2
open PySem PySem.Spec PyProof.Rows
theorem Inv.turnedL {X:Cx} {pins:List (Addr × Obj)} {σ:St} {H:Hp} {s:Shared} {h':Heap} {t':Nat} {ch:List Addr} (I:Inv X pins σ H s) (hch:∀ b ∈ ch,FpOk X pins H b) (k:∀ b o,b ∉ ch → s.heap.get? b = some o → h'.get? b = some o):Inv X pins σ H { s with heap:=h',toks:=t' }:=by
  have nit:∀ b u,H b = some u → b ∉ ch:=fun b u e z=>by rw [(hch b z).1] at e; cases e
  refine I.step (g':=s.gens) (d':=s.drawn) (ch:=ch) (fun b hb=>?_) (fun b o _ _ hc e _=>k b o hc e) (fun b o _ _ hc e _=>⟨o.slots,k b o hc e⟩) (fun _ _ _ _ n=>n) (fun b o hc e=>⟨o,k b o hc e⟩) (fun _ _ e=>e) (fun _ _ _ e=>e) (fun b ps e=>⟨#[],by rw [e]; simp⟩) (fun m hm=>?_) (fun b u e=>?_) I.bare
  · obtain ⟨f0,f1,f2,f3,f4,f5⟩:=hch b hb
    exact ⟨f3,f1,f4,f5⟩
  · obtain ⟨o,es,ep,ho,r⟩:=hm
    exact ⟨o,es,ep,k _ o (fun z=>(hch _ z).2.1 rfl) ho,r⟩
  · refine (I.hok b u e).stay (fun c v hc q=>k c v ?_ q) (fun _ q=>q) fun _ _ q=>q
    rcases hc with z | z
    · rw [z]; exact nit b u e
    · exact nit c _ z
theorem Inv.turnedLaid {X:Cx} {pins:List (Addr × Obj)} {σ:St} {H:Hp} {s:Shared} {h':Heap} {t':Nat} {ch:List Addr} {T:Addr} {ob:HO} (I:Inv X pins σ H s) (hch:∀ b ∈ ch,FpOk X pins H b) (k:∀ b o,b ∉ ch → s.heap.get? b = some o → h'.get? b = some o)
    (hT:s.heap.objs.size ≤ T) (new:ObjOk X.prog X.w (upd H T ob) h' T ob):Inv X pins σ (upd H T ob) { s with heap:=h',toks:=t' }:=by
  have hn:H T = none:=I.hok.fresh hT
  have nit:∀ b u,H b = some u → b ∉ ch:=fun b u e z=>by rw [(hch b z).1] at e; cases e
  have up:∀ b u,H b = some u → (upd H T ob) b = some u:=fun b u e=>by rw [upd_ne (ne_of_none e hn)]; exact e
  refine I.step (g':=s.gens) (d':=s.drawn) (ch:=ch) (fun b hb=>?_) (fun b o _ _ hc e _=>k b o hc e) (fun b o _ _ hc e _=>⟨o.slots,k b o hc e⟩) (fun b o _ e n=>?_) (fun b o hc e=>⟨o,k b o hc e⟩) (fun b _ e=>up b _ e) (fun b _ _ e=>up b _ e) (fun b ps e=>⟨#[],by rw [up b _ e]; simp⟩) (fun m hm=>?_) (fun b u e=>?_) I.bare
  · obtain ⟨f0,f1,f2,f3,f4,f5⟩:=hch b hb
    exact ⟨f3,f1,f4,f5⟩
  · rw [upd_ne (Nat.ne_of_lt (Nat.lt_of_lt_of_le (Heap.lt_size e) hT))]; exact n
  · obtain ⟨o,es,ep,ho,r⟩:=hm
    exact ⟨o,es,ep,k _ o (fun z=>(hch _ z).2.1 rfl) ho,r⟩
  · by_cases hb:b = T
    · subst hb; rw [upd_same] at e; cases e; exact new
    · rw [upd_ne hb] at e
      refine (I.hok b u e).stay (fun c v hc q=>k c v ?_ q) (fun c q=>up c _ q) fun c _ q=>up c _ q
      rcases hc with z | z
      · rw [z]; exact nit b u e
      · exact nit c _ z
def Itte (K:PySem.W.Frag) (a:Addr):It :=
  ⟨fun i H=>∃ xs x,SqT K H a xs ∧ xs[i]? = some x,fun i H v H'=>∃ T x,H T = none ∧ v = .ref T ∧ (∀ xs,SqT K H a xs → xs[i]? = some x) ∧ H' = upd H T (.tup [.int i,x]),fun i H=>∃ xs,SqT K H a xs ∧ xs.length = i⟩
theorem turn_enumT {P:Program} {w:World} {K:PySem.W.Frag} {elts:List Expr} {kk:Nat} {tp:Pos} (e it a:Addr) (hei:e ≠ it):Turn P w K (.Tuple elts kk tp) (Itte K a) [e,it] e (fun i h=>(∃ old,IsEnum h e it i old) ∧ h.IsTupleIter it a i) where
  mem:=by simp
  obj:=fun i h st b hb=>by
    obtain ⟨⟨old,he⟩,o,ho,hc,hd⟩:=st
    rcases List.mem_cons.mp hb with q | q
    · subst q
      exact ⟨_,he,fun v z=>by have z':Data.fields _ = Data.cell v:=z; cases z'⟩
    · rw [List.mem_singleton.mp q]
      exact ⟨o,ho,fun v z=>by rw [hd] at z; cases z⟩
  keep:=fun i h h' st k=>⟨st.1.imp fun old x=>k e (by simp) _ x,st.2.at fun o x=>k it (by simp) o x⟩
  item:=by
    intro X hP hw hK hc i pins s σ H E I hf st hg
    subst hP hw hK
    obtain ⟨xs,x,hq,hx⟩:=hg
    obtain ⟨its,rv,p,hz⟩:=I.tuple hq
    obtain ⟨u,hu,ru⟩:=rv.get hx
    have hA:X.A.handled = none:=I.ok.hd hc
    obtain ⟨⟨old,he⟩,hI⟩:=id st
    have hai:a ≠ it:=fun z=>by
      obtain ⟨o1,g1,c1,_⟩:=p
      obtain ⟨o2,g2,c2,_⟩:=hI
      rw [z,g2] at g1
      cases g1
      rw [c2] at c1
      exact absurd c1 (by decide)
    have hae:e ≠ a:=fun z=>by
      obtain ⟨o1,g1,c1,_⟩:=p
      have g2:s.heap.get? e = _:=he
      rw [← z,g2] at g1
      cases g1
      exact absurd (show Value.type "enumerate" = Value.type "tuple" from c1) (by decide)
    have W:=WalksT.enumerateD (prog:=X.prog) (w:=X.w) (A:=X.A) (Draws.tup (by exact hA) it a hai its.toArray) e hei (by simp [hei,hae]) (by simp)
    have hi:i < its.toArray.size:=by
      have:=(List.getElem?_eq_some_iff.mp hu).1
      simpa using this
    refine W.item i s _ _ hi ⟨⟨old,he⟩,hI,p⟩ fun T vals h' tk hv hT hIT hmid k1=>?_
    obtain ⟨t',x',hx',rfl⟩:=hv
    have ex:x' = u:=by
      have h2:its.toArray[i]? = some u:=by simpa using hu
      rw [h2] at hx'
      exact (Option.some.inj hx').symm
    subst ex
    refine ⟨_,rfl,W.go elts kk tp i T _ _ _ hmid fun h2 hst2 k2=>?_⟩
    have hTw:=W.apart i T _ hmid
    have new:ObjOk X.prog X.w (upd H T (.tup [.int i,x])) h2 T (.tup [.int i,x]):=by
      obtain ⟨ot,g1,r1⟩:=hIT
      exact ⟨by show 2 ≤ sizeLine; decide,[.int i t',x'],.cons ⟨t',rfl⟩ (.cons ru .nil),ot,k2 T ot hTw g1,r1⟩
    refine ⟨.ref T,_,I.turnedLaid (ch:=[e,it]) (t':=tk) hf (fun b o hb g=>k2 b o hb (k1 b o hb g)) hT new,rfl,⟨T,x,I.hok.fresh hT,rfl,fun ys hy=>by rw [I.tuple_inj hy hq]; exact hx,rfl⟩,⟨hst2.1,hst2.2.1⟩,fun b hb=>?_⟩
    have hbT:b ≠ T:=fun z=>hTw (by rw [← z]; exact hb)
    rw [upd_ne hbT]
    exact (hf b hb).1
  done:=by
    intro X hP hw hK hc i pins s σ H E I hf st hg
    subst hP hw hK
    obtain ⟨xs,hq,hx⟩:=hg
    obtain ⟨its,rv,p,hz⟩:=I.tuple hq
    have hA:X.A.handled = none:=I.ok.hd hc
    obtain ⟨⟨old,he⟩,hI⟩:=id st
    have hai:a ≠ it:=fun z=>by
      obtain ⟨o1,g1,c1,_⟩:=p
      obtain ⟨o2,g2,c2,_⟩:=hI
      rw [z,g2] at g1
      cases g1
      rw [c2] at c1
      exact absurd c1 (by decide)
    have hae:e ≠ a:=fun z=>by
      obtain ⟨o1,g1,c1,_⟩:=p
      have g2:s.heap.get? e = _:=he
      rw [← z,g2] at g1
      cases g1
      exact absurd (show Value.type "enumerate" = Value.type "tuple" from c1) (by decide)
    have W:=WalksT.enumerateD (prog:=X.prog) (w:=X.w) (A:=X.A) (Draws.tup (by exact hA) it a hai its.toArray) e hei (by simp [hei,hae]) (by simp)
    have hl:=rv.length
    have en:its.toArray.size = i:=by simp; omega
    refine W.done s _ _ ?_ fun h' tk k1=>⟨rfl,I.turnedL (ch:=[e,it]) (t':=tk) hf fun b o hb g=>k1 b o hb g⟩
    rw [en]
    exact ⟨⟨old,he⟩,hI,p⟩
  self:=fun _ _ _ _ _ st h=>by
    obtain ⟨⟨old,he⟩,_⟩:=st
    exact wpAny_pyIter_enum he h
section
variable {X:Cx}
def iEnumT (K:PySem.W.Frag) (ta:TA):TI:=fun σ H R=>ta σ H fun vs H1=>∃ a,vs = [.ref a] ∧ (∃ xs,SqT K H1 a xs) ∧ R (Itte K a) H1
theorem pi_enumT {a:Expr} {ta:TA} {p pos:Pos} {elts:List Expr} {kk:Nat} {tp:Pos} (hg:Gl X "enumerate") (hm:X.mg "enumerate" = none) (ha:PA X [a] ta) (hs:starEach [a] X.env = [(false,eval a X.env)]:=by rfl) :
    PI X (.Tuple elts kk tp) (.Call (.Name "enumerate" p) [a] [] pos) (iEnumT X.K ta):=by
  intro pins s σ H R I h
  refine Call_ (ld_blt I hg hm boot_enumerate (PyProof.Rows.callWith_type1 (thn (ha pos pins s σ H _ I h) fun us s1 ⟨vs,H1,I1,r1,q1⟩=>?_) hs rfl))
  obtain ⟨l,e,⟨xs,hq⟩,q⟩:=q1
  subst e
  cases r1 with
  | cons r rr =>
    cases rr
    cases r
    obtain ⟨its,rv,p,hz⟩:=I1.tuple hq
    refine call_enumT p fun h' he hi hsz kp=>wpAny_pyIter_enum he ⟨s1.heap.objs.size + 1,[s1.heap.objs.size + 1,s1.heap.objs.size],_,_,H1,rfl,I1.kept (t':=s1.toks) kp,turn_enumT _ _ l (Nat.ne_of_gt (Nat.lt_succ_self _)),⟨⟨_,he⟩,hi⟩,fun b hb=>?_,q⟩
    rcases List.mem_cons.mp hb with z | z
    · subst z; exact I1.fpOk (Nat.le_succ _) (I1.hok.fresh (Nat.le_succ _))
    · rw [List.mem_singleton.mp z]; exact I1.fpOk (Nat.le_refl _) (I1.hok.fresh (Nat.le_refl _))
end
end L2
namespace SH
open PySem L2
def wayGo:List Int → Int → List Nd → List Int
  | W,_,[]=>W
  | W,k,n :: r=>wayGo (W.take n.2.toNat ++ [k]) (k + 1) r
def way (ns:List Nd):List Int:=wayGo [] 0 ns
def anc (ns:List Nd) (k:Nat):List Int:=(way (ns.take k)).take ((ns.getD k ("",0)).2.toNat)
def kept (ps W:List Int):List Int:=W.filter fun j=>decide (j ∈ ps)
theorem Same.none {H H':Hp} (s:Same H H') {b:Addr} (h:H' b = none):H b = none:=by
  cases e:H b with
  | none=>rfl
  | some o=>rw [s _ _ e] at h; cases h
def below (ps:List Int) (i:Nat):List Int:=ps.filter fun p=>decide (p < (i:Int))
def nodeL (ns:List Nd) (ps:List Int) (p:Int):Nd:=((ns.getD p.toNat ("",0)).1,((kept ps (anc ns p.toNat)).length:Int))
def leftN (ns:List Nd) (ps:List Int):List Nd:=ps.map (nodeL ns ps)
end SH
namespace L2
open PySem PySem.Spec PyProof.Rows
section
variable {X:Cx}
def rRange1:List V → Hp → VK → Prop:=fun xs H Q=>∃ n:Int,xs = [.int n] ∧ ∀ r,H r = none → Q (.ref r) (upd H r (.rng 0 n))
def rRange2:List V → Hp → VK → Prop:=fun xs H Q=>∃ lo hi:Int,xs = [.int lo,.int hi] ∧ ∀ r,H r = none → Q (.ref r) (upd H r (.rng lo hi))
theorem call_rangeV2:CallR X (.type "range") rRange2:=by
  intro pins s σ H xs us Q I r h
  obtain ⟨lo,hi,rfl,q⟩:=h
  cases r with
  | cons r1 rr =>
    cases rr with
    | cons r2 rr =>
      cases rr
      obtain ⟨t,rfl⟩:=r1
      obtain ⟨t',rfl⟩:=r2
      refine call_range_2 ⟨.ref s.heap.objs.size,_,I.laid (a:=s.heap.objs.size) (o:=.rng lo hi) (fun b o e=>Heap.get?_push_of_some _ e) (Nat.le_refl _) ?_,rfl,q _ (I.hok.fresh (Nat.le_refl _))⟩
      exact ⟨_,_,_,Heap.get?_push_size _ rfl⟩
def rListR:List V → Hp → VK → Prop:=fun xs H Q=>∃ (r:Addr) (lo hi:Int),xs = [.ref r] ∧ H r = some (.rng lo hi) ∧ (-(2 ^ 62) ≤ lo ∧ lo < 2 ^ 62 ∧ -(2 ^ 62) ≤ hi ∧ hi < 2 ^ 62) ∧ (hi - lo).toNat ≤ 900 ∧ ∀ l,H l = none → Q (.ref l) (upd H l (.lst (((List.range (hi - lo).toNat).map fun i:Nat=>lo + (i:Int)).map V.int)))
theorem vals_items:∀ {ns:List Int} {vs:List Value},ns.length = vs.length → (∀ (i:Nat) (n:Int) (v:Value),ns[i]? = some n → vs[i]? = some v → ∃ t,v = .int n t) → Vals (ns.map V.int) vs
  | [],[],_,_=>.nil
  | [],_ :: _,h,_=>by simp at h
  | _ :: _,[],h,_=>by simp at h
  | n :: ns,v :: vs,h,k=>by
    refine .cons ?_ (vals_items (by simpa using h) fun i n v h1 h2=>k (i + 1) n v h1 h2)
    obtain ⟨t,e⟩:=k 0 n v rfl rfl
    exact ⟨t,e⟩
theorem call_listR (hc:X.calm = true):CallR X (.type "list") rListR:=by
  intro pins s σ H xs us Q I r h
  obtain ⟨ra,lo,hi,rfl,hr,⟨h1,h2,h3,h4⟩,hsz,q⟩:=h
  obtain ⟨u,rfl,rx⟩:=vals1 r
  cases rx
  have hA:X.A.handled = none:=I.ok.hd hc
  obtain ⟨t,u,v,e⟩:=(show ObjOk X.prog X.w H s.heap ra (.rng lo hi) from I.hok ra _ hr)
  have en:Builtin.Range.rangeSize lo hi 1 = (((hi - lo).toNat:Nat):Int):=by rw [rangeSize_one]; split <;> omega
  refine call_list_range hA (show IsRange s.heap ra lo hi 1 t u v from e) (small_one h1 h2 h3 h4) en (by omega) fun h' tk acc c kp he hi'=>?_
  obtain ⟨hz,hitem⟩:=hi'
  have z9:(1000:Nat) ≤ sizeLine:=by decide
  refine ⟨.ref s.heap.objs.size,_,I.laid (a:=s.heap.objs.size) (o:=.lst (((List.range (hi - lo).toNat).map fun i:Nat=>lo + (i:Int)).map V.int)) (t':=tk) kp (Nat.le_refl _) ⟨?_,acc.toList,c,?_,?_⟩,rfl,q _ (I.hok.fresh (Nat.le_refl _))⟩
  · rw [List.length_map,List.length_map,List.length_range]; omega
  · refine vals_items (by rw [List.length_map,List.length_range]; simpa using hz.symm) fun i n w e1 e2=>?_
    rw [List.getElem?_map] at e1
    obtain ⟨j,ej,rfl⟩:=Option.map_eq_some_iff.mp e1
    have hj:=(List.getElem?_eq_some_iff.mp ej)
    obtain ⟨hj1,hj2⟩:=hj
    rw [List.getElem_range] at hj2
    subst hj2
    obtain ⟨t',e'⟩:=hitem i w (by simpa using e2)
    exact ⟨t',by rw [e',Int.mul_one]⟩
  · simpa using he
end
end L2
namespace SH
open PySem L2
def leftR (xs:List V) (ps:List Int):List V:=ps.map fun i=>xs.getD i.toNat .non
end SH
namespace L2
open PySem PySem.Spec PyProof.Rows
theorem count_eqU {x:V}:∀ {xs:List V} {us:List Value},Vals xs us → xs.all flatV = true → us.countP (eqU x) = xs.countP fun y=>eqV y x
  | _,_,.nil,_=>rfl
  | y :: xs,u :: us,.cons r t,f=>by
    rw [List.all_cons,Bool.and_eq_true] at f
    rw [List.countP_cons,List.countP_cons,eqU_of r f.1,count_eqU t f.2]
section
variable {X:Cx}
def rCountT (K:PySem.W.Frag):V → List V → Hp → VK → Prop:=fun x vs H Q=>∃ t xs y,x = .ref t ∧ vs = [y] ∧ SqT K H t xs ∧ flatV y = true ∧ xs.all flatV = true ∧ Q (.int ((xs.countP fun z=>eqV z y:Nat):Int)) H
theorem mt_countT:MtM X "tuple.count" (rCountT X.K):=by
  intro pins s σ H x vs v us Q I rx rv h
  obtain ⟨t,xs,y,rfl,rfl,hq,fy,fs,q⟩:=h
  cases rx
  obtain ⟨u,rfl,ru⟩:=rv.one
  obtain ⟨its,r,p,hz⟩:=I.tuple hq
  obtain ⟨⟨oc,od,oda,osl⟩,ho,hc,n,hd⟩:=p
  replace hc:oc = .type "tuple":=hc
  replace hd:oda = .seq its.toArray n:=hd
  subst hc hd
  refine call_meets F.slot_tuple_count ⟨_,ho,rfl⟩ F.entry_tuple_count (F.args_tuple_count_2 _ _) (SeqAt.tuple_countAt t its.toArray n od osl u (eqU y)) ⟨ho,fun w hw=>mem_eqAt ru fy r fs w (by simpa using hw),?_⟩
  refine ⟨.int _,H,I.tok _,⟨_,rfl⟩,?_⟩
  rw [show its.toArray.toList = its by simp,count_eqU r fs]
  exact q
end
def TupF (H:Hp) (t:Addr) (xs:List V):Prop:=∃ o:Obj,H t = some (.frz o (.tup xs)) ∧ o.cls = .type "tuple" ∧ o.dict = none
theorem TupF.sq {K:PySem.W.Frag} {H:Hp} {t:Addr} {xs:List V} (h:TupF H t xs):SqT K H t xs:=let ⟨o,e,_⟩:=h; .inl (.inr ⟨o,e⟩)
theorem TupF.keep {H H':Hp} {t:Addr} {xs:List V} (s:∀ b o,(∀ zs,o ≠ HO.lst zs) → H b = some o → H' b = some o) (h:TupF H t xs):TupF H' t xs:=let ⟨o,e,r⟩:=h; ⟨o,s _ (.frz o _) (fun _ z=>nomatch z) e,r⟩
theorem TupF.to {H H':Hp} {t:Addr} {xs:List V} (h:TupF H t xs) (s:∀ o,H t = some (.frz o (.tup xs)) → H' t = some (.frz o (.tup xs))):TupF H' t xs:=let ⟨o,e,r⟩:=h; ⟨o,s o e,r⟩
section
variable {X:Cx}
def rTupF (K:PySem.W.Frag):List V → Hp → VK → Prop:=fun xs H Q=>∃ p ys,xs = [.ref p] ∧ SqL K H p ys ∧ ∀ l (o:Obj),H l = none → o.cls = .type "tuple" → o.dict = none → Q (.ref l) (upd H l (.frz o (.tup ys)))
theorem call_tupF:CallR X (.type "tuple") (rTupF X.K):=by
  intro pins s σ H xs us Q I r h
  obtain ⟨p,ys,rfl,hq,q⟩:=h
  obtain ⟨u,rfl,rx⟩:=vals1 r
  cases rx
  obtain ⟨its,r',pl,hz⟩:=I.list hq
  have hlen:=r'.length
  refine call_tuple_list pl.isList (fun h' kp=>?_) (by simp only [List.size_toArray] <;> omega)
  have I1:Inv X pins σ H { s with heap:=h' }:=I.kept (t':=s.toks) kp
  have I2:Inv X pins σ (upd H h'.objs.size (.frz { cls:=.type "tuple",data:=.seq its.toArray } (.tup ys))) { s with heap:=h'.push { cls:=.type "tuple",data:=.seq its.toArray } } :=
    I1.laid (t':=s.toks) (fun b o e=>Heap.get?_push_of_some _ e) (Nat.le_refl _) ⟨Heap.get?_push_size _ rfl,hz,its,r',IsTup.new _ _⟩
  exact ⟨.ref h'.objs.size,_,I2,rfl,q _ _ (I1.hok.fresh (Nat.le_refl _)) rfl rfl⟩
def tCountF (K:PySem.W.Frag) (to:TE) (t:TA):TE:=fun σ H Q=>to σ H fun x H1=>∃ p zs,x = .ref p ∧ TupF H1 p zs ∧ t σ H1 fun xs H2=>rCountT K x xs H2 Q
theorem pe_countF {o e:Expr} {to:TE} {t:TA} {apos cpos:Pos} (ho:PE X o to) (ha:PA X [e] t)
    (hbase:attributeBase o "count" X.env (eval o X.env) = eval o X.env:=by rfl)
    (hfew:((backTo cpos (starEach [e] X.env)).all (fun x=>!x.1) && (backToKw cpos (keywordEach [] X.env)).all (fun x=>x.1.isSome)
      && decide (([e]:List Expr).length + ([]:List Keyword).length + (if ([]:List Keyword).isEmpty then 0 else 1) < 30)) = true:=by rfl)
    (hline:(apos.endLine == cpos.line) = true:=by rfl) (hs:starEach [e] X.env = (false,eval e X.env) :: starEach [] X.env:=by rfl) (hplain:(backTo cpos (starEach [] X.env)).any (·.1) = false:=by rfl) :
    PE X (.Call (.Attribute o "count" apos) [e] [] cpos) (tCountF X.K to t):=by
  intro pins s σ H Q I h
  refine wpAny_Call_method_late hbase hfew hline rfl (thn (ho pins s σ H _ I h) fun v s1 ⟨x,H1,I1,r1,p,zs,ex,⟨ob,hf,hc,hd⟩,q1⟩=>?_)
  subst ex
  cases r1
  obtain ⟨e1,_⟩:=(show ObjOk X.prog X.w H1 s1.heap p (.frz ob (.tup zs)) from I1.hok p _ hf)
  refine ⟨"tuple","tuple.count",PySem.F.plainAttrs_tuple,PySem.F.slot_tuple_count,PySem.F.type_tuple_count,⟨ob,e1,hc⟩,fun a z=>by cases z; exact ⟨ob,e1,hd⟩,?_⟩
  have hA:=ha cpos pins s1 σ H1 _ I1 q1
  rw [hs] at hA ⊢
  refine Calls.callWith_builtin (by show (false || (backTo cpos (starEach [] X.env)).any (·.1)) = false; rw [hplain] <;> rfl) (Calls.evalArgs_plain ?_)
  exact thn hA fun us s2 ⟨vs,H2,I2,r2,q2⟩=>mt_countT pins s2 σ H2 (.ref p) vs _ us Q I2 rfl r2 q2
end
theorem pg_two {X:Cx} {i j:Nat} {x y:Str} {p1 p2 pos:Pos} {kk:Nat} (hc:X.calm = true) (hN:X.N.Nodup) (hi:X.N[i]? = some x) (hj:X.N[j]? = some y) (hx:Loc X.env.scope x) (hy:Loc X.env.scope y)
    (hfx:X.fn x = true ∨ X.env.scope.names.lookup x = some .local:=by first | exact .inl rfl | exact .inr rfl | assumption) (hfy:X.fn y = true ∨ X.env.scope.names.lookup y = some .local:=by first | exact .inl rfl | exact .inr rfl | assumption) :
    PG X (.Tuple [.Name x p1,.Name y p2] kk pos) (gTup X.K 2 (gCons (gName i) (gCons (gName j) gNil))):=pg_tup hc (pgs_cons (pg_name hN hi hx hfx) (pgs_cons (pg_name hN hj hy hfy) pgs_nil))
theorem comp_enumT {K:PySem.W.Frag} {a:Addr} {xs:List V} {x0 x1:Str} {ix:List Nat} {ti:TT} {te:TE} {Q:VK} {σ:St} {H:Hp} (Pv:Nat → List V → Hp → Prop) (h0:Pv 0 [] H) (hl:∀ i ys H,i ≤ xs.length → Pv i ys H → SqT K H a xs)
    (hs:∀ i x ys H T (R:List V → Hp → Prop),xs[i]? = some x → Pv i ys H → H T = none → (∀ ys' H',Pv (i + 1) ys' H' → R ys' H') → ti (some (.int (i:Nat)) :: some x :: ix.map fun j=>(σ[j]?).join) (upd H T (.tup [.int (i:Nat),x])) fun b H3=>if b = true then te (some (.int (i:Nat)) :: some x :: ix.map fun j=>(σ[j]?).join) H3 fun y H4=>ys.length < sizeLine ∧ R (ys ++ [y]) H4 else R ys H3)
    (hd:∀ ys H,Pv xs.length ys H → ys.length ≤ sizeLine ∧ ∀ D,H D = none → Q (.ref D) (upd H D (.lst ys))) :
    ∃ W:Nat → Nat → List V → St → Hp → Prop,(∃ m,W 0 m [] (capS σ [x0,x1] ix) H) ∧ ∀ i m ys σ' H,W i m ys σ' H →
      ((Itte K a).stop i H ∧ ys.length ≤ sizeLine ∧ ∀ D,H D = none → Q (.ref D) (upd H D (.lst ys))) ∨
      ((Itte K a).go i H ∧ ∀ x H',(Itte K a).yld i H x H' → gTup K 2 (gCons (gName 0) (gCons (gName 1) gNil)) x σ' H' fun σ2 H2=>ti σ2 H2 fun b H3=>if b = true then te σ2 H3 fun y H4=>ys.length < sizeLine ∧ ∃ m',m' < m ∧ W (i + 1) m' (ys ++ [y]) σ2 H4 else ∃ m',m' < m ∧ W (i + 1) m' ys σ2 H3):=by
  refine ⟨fun i m ys σ' H=>m = xs.length - i ∧ i ≤ xs.length ∧ (∃ o o',σ' = o :: o' :: ix.map fun j=>(σ[j]?).join) ∧ Pv i ys H,⟨xs.length,by simp,Nat.zero_le _,⟨none,none,rfl⟩,h0⟩,?_⟩
  rintro i m ys σ' H ⟨rfl,hi,⟨o,o',rfl⟩,p⟩
  have q:=hl i ys H hi p
  by_cases hlt:i < xs.length
  · refine .inr ⟨⟨xs,xs[i],q,by simp [hlt]⟩,fun v H' y=>?_⟩
    obtain ⟨T,x,hT,rfl,y,rfl⟩:=y
    refine ⟨T,[.int i,x],rfl,SqT.of upd_same,rfl,.int i,[x],rfl,x,[],rfl,rfl,?_⟩
    exact hs i x ys H T (fun ys' H4=>∃ m',m' < xs.length - i ∧ m' = xs.length - (i + 1) ∧ i + 1 ≤ xs.length ∧ (∃ o o',(some (.int (i:Nat)) :: some x :: ix.map fun j=>(σ[j]?).join) = o :: o' :: ix.map fun j=>(σ[j]?).join) ∧ Pv (i + 1) ys' H4) (y xs q) p hT
      fun ys' H4 z=>⟨xs.length - (i + 1),by omega,rfl,hlt,⟨_,_,rfl⟩,z⟩
  · have e:i = xs.length:=by omega
    subst e
    exact .inl ⟨⟨xs,q,rfl⟩,hd ys H p⟩
theorem tcomp_enumT {K:PySem.W.Frag} {a:Addr} {xs:List V} {x0 x1:Str} {ix:List Nat} {wi:TI} {ti:TT} {te:TE} {Q:VK} {σ:St} {H H1:Hp} (hi:∀ R:It → Hp → Prop,R (Itte K a) H1 → wi σ H R) (Pv:Nat → List V → Hp → Prop) (h0:Pv 0 [] H1) (hl:∀ i ys H,i ≤ xs.length → Pv i ys H → SqT K H a xs)
    (hs:∀ i x ys H T (R:List V → Hp → Prop),xs[i]? = some x → Pv i ys H → H T = none → (∀ ys' H',Pv (i + 1) ys' H' → R ys' H') → ti (some (.int (i:Nat)) :: some x :: ix.map fun j=>(σ[j]?).join) (upd H T (.tup [.int (i:Nat),x])) fun b H3=>if b = true then te (some (.int (i:Nat)) :: some x :: ix.map fun j=>(σ[j]?).join) H3 fun y H4=>ys.length < sizeLine ∧ R (ys ++ [y]) H4 else R ys H3)
    (hd:∀ ys H,Pv xs.length ys H → ys.length ≤ sizeLine ∧ ∀ D,H D = none → Q (.ref D) (upd H D (.lst ys))):tComp [x0,x1] ix wi (gTup K 2 (gCons (gName 0) (gCons (gName 1) gNil))) ti te σ H Q:=hi _ (comp_enumT Pv h0 hl hs hd)
end L2
namespace L2
open PySem PySem.Spec PyProof.Rows
theorem comp_tup {K:PySem.W.Frag} {a:Addr} {xs:List V} {x0:Str} {ix:List Nat} {ti:TT} {te:TE} {Q:VK} {σ:St} {H:Hp} (Pv:Nat → List V → Hp → Prop) (h0:Pv 0 [] H) (hl:∀ i ys H,i ≤ xs.length → Pv i ys H → SqT K H a xs)
    (hs:∀ i x ys H (R:List V → Hp → Prop),xs[i]? = some x → Pv i ys H → (∀ ys' H',Pv (i + 1) ys' H' → R ys' H') → ti (some x :: ix.map fun j=>(σ[j]?).join) H fun b H3=>if b = true then te (some x :: ix.map fun j=>(σ[j]?).join) H3 fun y H4=>ys.length < sizeLine ∧ R (ys ++ [y]) H4 else R ys H3)
    (hd:∀ ys H,Pv xs.length ys H → ys.length ≤ sizeLine ∧ ∀ D,H D = none → Q (.ref D) (upd H D (.lst ys))) :
    ∃ W:Nat → Nat → List V → St → Hp → Prop,(∃ m,W 0 m [] (capS σ [x0] ix) H) ∧ ∀ i m ys σ' H,W i m ys σ' H →
      ((Itt K a).stop i H ∧ ys.length ≤ sizeLine ∧ ∀ D,H D = none → Q (.ref D) (upd H D (.lst ys))) ∨
      ((Itt K a).go i H ∧ ∀ x H',(Itt K a).yld i H x H' → gName 0 x σ' H' fun σ2 H2=>ti σ2 H2 fun b H3=>if b = true then te σ2 H3 fun y H4=>ys.length < sizeLine ∧ ∃ m',m' < m ∧ W (i + 1) m' (ys ++ [y]) σ2 H4 else ∃ m',m' < m ∧ W (i + 1) m' ys σ2 H3):=by
  refine ⟨fun i m ys σ' H=>m = xs.length - i ∧ i ≤ xs.length ∧ (∃ o,σ' = o :: ix.map fun j=>(σ[j]?).join) ∧ Pv i ys H,⟨xs.length,by simp,Nat.zero_le _,⟨none,rfl⟩,h0⟩,?_⟩
  rintro i m ys σ' H ⟨rfl,hi,⟨o,rfl⟩,p⟩
  have q:=hl i ys H hi p
  by_cases hlt:i < xs.length
  · refine .inr ⟨⟨xs,xs[i],q,by simp [hlt]⟩,fun x H' y=>?_⟩
    obtain ⟨e,y⟩:=y
    subst e
    exact hs i x ys _ (fun ys' H4=>∃ m',m' < xs.length - i ∧ m' = xs.length - (i + 1) ∧ i + 1 ≤ xs.length ∧ (∃ o',some x :: (ix.map fun j=>(σ[j]?).join) = o' :: ix.map fun j=>(σ[j]?).join) ∧ Pv (i + 1) ys' H4) (y xs q) p
      fun ys' H4 z=>⟨xs.length - (i + 1),by omega,rfl,hlt,⟨_,rfl⟩,z⟩
  · have e:i = xs.length:=by omega
    subst e
    exact .inl ⟨⟨xs,q,Nat.le_refl _⟩,hd ys H p⟩
theorem tcomp_tup {K:PySem.W.Frag} {a:Addr} {xs:List V} {x0:Str} {ix:List Nat} {wi:TI} {ti:TT} {te:TE} {Q:VK} {σ:St} {H H1:Hp} (hi:∀ R:It → Hp → Prop,R (Itt K a) H1 → wi σ H R) (Pv:Nat → List V → Hp → Prop) (h0:Pv 0 [] H1) (hl:∀ i ys H,i ≤ xs.length → Pv i ys H → SqT K H a xs)
    (hs:∀ i x ys H (R:List V → Hp → Prop),xs[i]? = some x → Pv i ys H → (∀ ys' H',Pv (i + 1) ys' H' → R ys' H') → ti (some x :: ix.map fun j=>(σ[j]?).join) H fun b H3=>if b = true then te (some x :: ix.map fun j=>(σ[j]?).join) H3 fun y H4=>ys.length < sizeLine ∧ R (ys ++ [y]) H4 else R ys H3)
    (hd:∀ ys H,Pv xs.length ys H → ys.length ≤ sizeLine ∧ ∀ D,H D = none → Q (.ref D) (upd H D (.lst ys))):tComp [x0] ix wi (gName 0) ti te σ H Q:=hi _ (comp_tup Pv h0 hl hs hd)
end L2
namespace SH
open PySem L2
def idxs {α:Type} (P:α → Bool):Nat → List α → List Int
  | _,[]=>[]
  | k,x :: xs=>(if P x then [(k:Int)] else []) ++ idxs P (k + 1) xs
theorem idxs_append {α:Type} (P:α → Bool):∀ (xs ys:List α) (k:Nat),idxs P k (xs ++ ys) = idxs P k xs ++ idxs P (k + xs.length) ys
  | [],ys,k=>rfl
  | x :: xs,ys,k=>by
    show (if P x then [(k:Int)] else []) ++ idxs P (k + 1) (xs ++ ys) = ((if P x then [(k:Int)] else []) ++ idxs P (k + 1) xs) ++ idxs P (k + (x :: xs).length) ys
    rw [idxs_append P xs ys (k + 1),List.append_assoc,List.length_cons,show k + 1 + xs.length = k + (xs.length + 1) by omega]
theorem idxs_take {α:Type} {P:α → Bool} {xs:List α} {i:Nat} {x:α} (h:xs[i]? = some x):idxs P 0 (xs.take (i + 1)) = idxs P 0 (xs.take i) ++ if P x then [(i:Int)] else []:=by
  have hi:=(List.getElem?_eq_some_iff.mp h).1
  rw [List.take_add_one,h,idxs_append,List.length_take,Nat.min_eq_left (by omega)]
  show _ ++ ((if P x then [((0 + i:Nat):Int)] else []) ++ []) = _
  rw [List.append_nil,Nat.zero_add]
theorem idxs_len {α:Type} (P:α → Bool):∀ (xs:List α) (k:Nat),(idxs P k xs).length = xs.countP P
  | [],_=>rfl
  | x :: xs,k=>by
    show ((if P x then [(k:Int)] else []) ++ idxs P (k + 1) xs).length = _
    rw [List.length_append,idxs_len P xs (k + 1),List.countP_cons]
    cases P x <;> simp <;> omega
theorem idxs_le {α:Type} (P:α → Bool) (xs:List α) (k:Nat):(idxs P k xs).length ≤ xs.length:=by rw [idxs_len]; exact List.countP_le_length
theorem _root_.L2.TupF.same {H H':Hp} {t:Addr} {xs:List V} (s:Same H H') (h:TupF H t xs):TupF H' t xs:=let ⟨o,e,r⟩:=h; ⟨o,s _ _ e,r⟩
def isM (m:Str) (x:V):Bool:=eqV x (.str m)
end SH
namespace PySem
open Sem (wp)
structure ZipAway (z TI TO i1 i2:Addr) (f1 f2:List Addr):Prop where
  zt:TO ≠ z
  kz:TI ≠ z
  kt:TI ≠ TO
  k1:TI ≠ i1
  k2:TI ≠ i2
  z1:z ∉ f1
  z2:z ∉ f2
  t1:TO ∉ f1
  t2:TO ∉ f2
  m1:i1 ∈ f1
  m2:i2 ∈ f2
  o1:i1 ∉ f2
  o2:i2 ∉ f1
section
variable {prog:Program} {w:World} {A:Around} {E:Value → Shared → Prop} {s:Shared} {z TI TO i1 i2:Addr} {f1 f2:List Addr} {n1 n2:Nat} {P1 P2:Nat → Value → Prop} {S1 S2:Nat → Heap → Prop}
theorem keepBut {b:Addr} {h h':Heap} (e:Heap.SameBut b h h') {c:Addr} {o:Obj} (hc:c ≠ b) (g:h.get? c = some o):h'.get? c = some o:=e.extBut _ _ hc g
theorem Draws.stay {it:Addr} {fp:List Addr} {n i:Nat} {P:Nat → Value → Prop} {St:Nat → Heap → Prop} {h h':Heap} {b:Addr} (D:Draws prog w A it fp n P St) (st:St i h) (hb:b ∉ fp) (e:Heap.SameBut b h h'):St i h' :=
  D.frame i h h' st fun c hc o g=>keepBut e (fun q=>hb (q ▸ hc)) g
theorem zipD_item {i:Nat} {a b:Value} {Q:Value → Shared → Prop} (W:ZipAway z TI TO i1 i2 f1 f2) (D1:Draws prog w A i1 f1 n1 P1 S1) (D2:Draws prog w A i2 f2 n2 P2 S2) (l1:i < n1) (l2:i < n2)
    (hz:IsZip s.heap z TI TO .none) (hI:IsPair s.heap TI (.ref i1) (.ref i2)) (hO:IsPair s.heap TO a b) (st1:S1 i s.heap) (st2:S2 i s.heap)
    (q:∀ h' tk x y,P1 i x → P2 i y → IsZip h' z TI TO (rawInt s.heap.objs.size) → IsPair h' TO x y → S1 (i + 1) h' → S2 (i + 1) h' → IsPair h' s.heap.objs.size x y → (∀ c o,c ≠ z → c ≠ TO → c ≠ i1 → c ≠ i2 → s.heap.get? c = some o → h'.get? c = some o) → Q (.ref s.heap.objs.size) { s with heap:=h',toks:=tk }) :
    wpAny (model prog w) A (Builtin.«zip.__next__» ⟨[.ref z],[]⟩) (fun fin s'=>∃ v,fin = .done (.ret v) ∧ Q v s') E s:=by
  refine wpAny_bind (m:=field (.ref z) 2) (wpAny_field hz rfl (x:=.bool false) rfl (wpAny_bind (m:=field (.ref z) 3) (wpAny_field hz rfl (x:=.ref TI) rfl (wpAny_bind (wpAny_seqItems hI rfl ?_)))))
  refine wpAny_bind (m:=Builtin.SmallTypes.ownedTupleIsFree (.ref z)) (wpAny_bind (wpAny_field hz rfl (x:=.none) rfl (wpAny_pure ?_)))
  simp only [if_true]
  refine wpAny_bind (wpAny_rule (wpAny_bind (wpAny_field hz rfl (x:=.ref TO) rfl (wpAny_bind (wpAny_setField_rec hz (by simp) fun g1 hz1 e1=>wpAny_bind ?_)))))
  replace hz1:IsZip g1 z TI TO .ellipsis:=hz1
  simp only [List.zipIdx_cons,List.zipIdx_nil,List.forIn_cons,List.forIn_nil]
  refine wpAny_bind (wpAny_bind (wpAny_onRaise (wpAny_bind (m:=Builtin.SmallTypes.nextOf (.ref i1)) (D1.item i _ _ _ l1 (D1.stay st1 W.z1 e1) fun x g2 tk2 hx st1' e2=>wpAny_pure ?_))))
  have ne1:i1 ≠ z:=fun q=>W.z1 (q ▸ W.m1)
  have ne2:i2 ≠ z:=fun q=>W.z2 (q ▸ W.m2)
  have nt1:TO ≠ i1:=fun q=>W.t1 (q ▸ W.m1)
  have nt2:TO ≠ i2:=fun q=>W.t2 (q ▸ W.m2)
  have hO2:IsPair g2 TO a b:=keepBut e2 nt1 (keepBut e1 W.zt hO)
  refine wpAny_bind (wpAny_seqItems (s:={ s with heap:=g2,toks:=tk2 }) hO2 rfl (wpAny_bind (wpAny_updateSeq_pair (s:={ s with heap:=g2,toks:=tk2 }) hO2 fun g3 hO3 e3=>wpAny_bind (wpAny_letGo (wpAny_pure ?_)))))
  replace hO3:IsPair g3 TO x b:=hO3
  refine wpAny_bind (wpAny_bind (wpAny_onRaise (wpAny_bind (m:=Builtin.SmallTypes.nextOf (.ref i2)) (D2.item i _ _ _ l2 (D2.stay (D2.stay (D2.stay st2 W.z2 e1) W.o1 e2) W.t2 e3) fun y g4 tk4 hy st2' e4=>wpAny_pure ?_))))
  have hO4:IsPair g4 TO x b:=keepBut e4 nt2 hO3
  refine wpAny_bind (wpAny_seqItems (s:={ s with heap:=g4,toks:=tk4 }) hO4 rfl (wpAny_bind (wpAny_updateSeq_pair (s:={ s with heap:=g4,toks:=tk4 }) hO4 fun g5 hO5 e5=>wpAny_bind (wpAny_letGo (wpAny_pure (wpAny_pure ?_))))))
  replace hO5:IsPair g5 TO x y:=hO5
  have sz:g5.objs.size = s.heap.objs.size:=by rw [e5.1,e4.1,e3.1,e2.1,e1.1]
  have hz5:IsZip g5 z TI TO .ellipsis:=keepBut e5 (Ne.symm W.zt) (keepBut e4 (Ne.symm ne2) (keepBut e3 (Ne.symm W.zt) (keepBut e2 (Ne.symm ne1) hz1)))
  have s15:S1 (i + 1) g5:=D1.stay (D1.stay (D1.stay st1' W.t1 e3) W.o2 e4) W.t1 e5
  have s25:S2 (i + 1) g5:=D2.stay st2' W.t2 e5
  have k5:∀ c o,c ≠ z → c ≠ TO → c ≠ i1 → c ≠ i2 → s.heap.get? c = some o → g5.get? c = some o:=fun c o c1 c2 c3 c4 g=>keepBut e5 c2 (keepBut e4 c4 (keepBut e3 c2 (keepBut e2 c3 (keepBut e1 c1 g))))
  refine wpAny_bind (wpAny_seqItems (s:={ s with heap:=g5,toks:=tk4 }) hO5 rfl (wpAny_bind (wpAny_newTuple ?_)))
  refine wpAny_bind (m:=Builtin.SmallTypes.ownedTupleHandOut (.ref z) (.ref g5.objs.size)) ?_
  have ltz:z < g5.objs.size:=Heap.lt_size hz5
  refine wpAny_bind (wpAny_setField_rec (s:={ s with heap:=g5.push { cls:=.type "tuple",data:=.seq #[x,y] },toks:=tk4 }) (Heap.get?_push_of_some _ hz5) (by simp) fun g7 hz7 e7=>?_)
  replace hz7:IsZip g7 z TI TO (rawInt g5.objs.size):=hz7
  refine wpAny_setField_rec hz7 (by simp) fun g8 hz8 e8=>?_
  replace hz8:IsZip g8 z TI TO (rawInt g5.objs.size):=hz8
  have up:∀ c o,c ≠ z → g5.get? c = some o → g8.get? c = some o:=fun c o c1 g=>keepBut e8 c1 (keepBut e7 c1 (Heap.get?_push_of_some _ g))
  have hT:IsPair g8 g5.objs.size x y:=keepBut e8 (Nat.ne_of_gt ltz) (keepBut e7 (Nat.ne_of_gt ltz) (Heap.get?_push_size _ rfl))
  rw [sz] at hz8 hT
  refine wpAny_pure ⟨_,rfl,?_⟩
  rw [sz]
  exact q g8 tk4 x y hx hy hz8 (up _ _ W.zt hO5) (D1.frame _ _ _ s15 fun c hc o g=>up c o (fun q=>W.z1 (q ▸ hc)) g) (D2.frame _ _ _ s25 fun c hc o g=>up c o (fun q=>W.z2 (q ▸ hc)) g) hT fun c o c1 c2 c3 c4 g=>up c o c1 (k5 c o c1 c2 c3 c4 g)
theorem zipD_end {i:Nat} {a b:Value} {Q:Fin → Shared → Prop} (W:ZipAway z TI TO i1 i2 f1 f2) (D1:Draws prog w A i1 f1 n1 P1 S1) (D2:Draws prog w A i2 f2 n2 P2 S2) (he:i = n1 ∨ (i < n1 ∧ i = n2))
    (hz:IsZip s.heap z TI TO .none) (hI:IsPair s.heap TI (.ref i1) (.ref i2)) (hO:IsPair s.heap TO a b) (st1:S1 i s.heap) (st2:S2 i s.heap)
    (q:∀ h' tk e,(∀ c o,c ≠ z → c ≠ TO → c ≠ i1 → c ≠ i2 → s.heap.get? c = some o → h'.get? c = some o) → (∃ o,h'.get? e = some o ∧ o.cls = .type "StopIteration") → E (.ref e) { s with heap:=h',toks:=tk }) :
    wpAny (model prog w) A (Builtin.«zip.__next__» ⟨[.ref z],[]⟩) Q E s:=by
  have ne1:i1 ≠ z:=fun q=>W.z1 (q ▸ W.m1)
  have ne2:i2 ≠ z:=fun q=>W.z2 (q ▸ W.m2)
  have nt1:TO ≠ i1:=fun q=>W.t1 (q ▸ W.m1)
  refine wpAny_bind (m:=field (.ref z) 2) (wpAny_field hz rfl (x:=.bool false) rfl (wpAny_bind (m:=field (.ref z) 3) (wpAny_field hz rfl (x:=.ref TI) rfl (wpAny_bind (wpAny_seqItems hI rfl ?_)))))
  refine wpAny_bind (m:=Builtin.SmallTypes.ownedTupleIsFree (.ref z)) (wpAny_bind (wpAny_field hz rfl (x:=.none) rfl (wpAny_pure ?_)))
  simp only [if_true]
  refine wpAny_bind (wpAny_rule (wpAny_bind (wpAny_field hz rfl (x:=.ref TO) rfl (wpAny_bind (wpAny_setField_rec hz (by simp) fun g1 hz1 e1=>wpAny_bind ?_)))))
  replace hz1:IsZip g1 z TI TO .ellipsis:=hz1
  simp only [List.zipIdx_cons,List.zipIdx_nil,List.forIn_cons,List.forIn_nil]
  have away:∀ {g:Heap} {e:Addr},IsZip g z TI TO .ellipsis → (∃ o,g.get? e = some o ∧ o.cls = .type "StopIteration") → e ≠ z:=fun hg ⟨o,ho,hc⟩ x=>by
    subst x
    rw [hg] at ho
    cases ho
    simp at hc
  refine wpAny_bind (wpAny_bind (wpAny_onRaise ?_))
  refine wpAny_bind (m:=Builtin.SmallTypes.nextOf (.ref i1)) ?_
  rcases he with rfl | ⟨lt,rfl⟩
  · refine D1.done _ _ _ (D1.stay st1 W.z1 e1) fun g2 e x2 hs=>?_
    have hz2:IsZip g2 z TI TO .ellipsis:=x2 _ _ (Ne.symm ne1) hz1
    have hez:=away hz2 hs
    obtain ⟨o,ho,hc⟩:=hs
    exact wpAny_setField_rec hz2 (by simp) fun g3 _ e3=>q g3 s.toks e (fun c o c1 _ c3 _ g=>keepBut e3 c1 (x2 _ _ c3 (keepBut e1 c1 g))) ⟨o,keepBut e3 hez ho,hc⟩
  · refine D1.item i _ _ _ lt (D1.stay st1 W.z1 e1) fun x g2 tk2 hx st1' e2=>wpAny_pure ?_
    have hO2:IsPair g2 TO a b:=keepBut e2 nt1 (keepBut e1 W.zt hO)
    refine wpAny_bind (wpAny_seqItems (s:={ s with heap:=g2,toks:=tk2 }) hO2 rfl (wpAny_bind (wpAny_updateSeq_pair (s:={ s with heap:=g2,toks:=tk2 }) hO2 fun g3 hO3 e3=>wpAny_bind (wpAny_letGo (wpAny_pure ?_)))))
    refine wpAny_bind (wpAny_bind (wpAny_onRaise ?_))
    refine wpAny_bind (m:=Builtin.SmallTypes.nextOf (.ref i2)) ?_
    refine D2.done _ _ _ (D2.stay (D2.stay (D2.stay st2 W.z2 e1) W.o1 e2) W.t2 e3) fun g4 e x4 hs=>?_
    have hz4:IsZip g4 z TI TO .ellipsis:=x4 _ _ (Ne.symm ne2) (keepBut e3 (Ne.symm W.zt) (keepBut e2 (Ne.symm ne1) hz1))
    have hez:=away hz4 hs
    obtain ⟨o,ho,hc⟩:=hs
    exact wpAny_setField_rec hz4 (by simp) fun g5 _ e5=>q g5 tk2 e (fun c o c1 c2 c3 c4 g=>keepBut e5 c1 (x4 _ _ c4 (keepBut e3 c2 (keepBut e2 c3 (keepBut e1 c1 g))))) ⟨o,keepBut e5 hez ho,hc⟩
theorem nextZ_item {i:Nat} {a b:Value} {Q:Option Value → Shared → Prop} (W:ZipAway z TI TO i1 i2 f1 f2) (D1:Draws prog w A.in1 i1 f1 n1 P1 S1) (D2:Draws prog w A.in1 i2 f2 n2 P2 S2) (l1:i < n1) (l2:i < n2)
    (hz:IsZip s.heap z TI TO .none) (hI:IsPair s.heap TI (.ref i1) (.ref i2)) (hO:IsPair s.heap TO a b) (st1:S1 i s.heap) (st2:S2 i s.heap)
    (q:∀ h' tk x y,P1 i x → P2 i y → IsZip h' z TI TO (rawInt s.heap.objs.size) → IsPair h' TO x y → S1 (i + 1) h' → S2 (i + 1) h' → IsPair h' s.heap.objs.size x y → (∀ c o,c ≠ z → c ≠ TO → c ≠ i1 → c ≠ i2 → s.heap.get? c = some o → h'.get? c = some o) → Q (some (.ref s.heap.objs.size)) { s with heap:=h',toks:=tk }) :
    wpAny (model prog w) A (pyNext (.ref z)) Q E s:=by
  have hT:s.TypeIs (.ref z) "zip":=⟨_,hz,rfl⟩
  unfold pyNext
  exact wpAny_bind (wpAny_attempt (wpAny_callSpecial?_slot (name:=Str.ofString "__next__") hT F.slot_zip_next (wpAny_call_entry F.slot_zip_next hT F.entry_zip_next (zipD_item W D1 D2 l1 l2 hz hI hO st1 st2 fun h' tk x y a1 a2 a3 a4 a5 a6 a7 a8=>wpAny_pure (q h' tk x y a1 a2 a3 a4 a5 a6 a7 a8)) (F.args_zip_next_1 _))))
theorem nextZ_end {i:Nat} {a b:Value} {Q:Option Value → Shared → Prop} (W:ZipAway z TI TO i1 i2 f1 f2) (D1:Draws prog w A.in1 i1 f1 n1 P1 S1) (D2:Draws prog w A.in1 i2 f2 n2 P2 S2) (he:i = n1 ∨ (i < n1 ∧ i = n2))
    (hz:IsZip s.heap z TI TO .none) (hI:IsPair s.heap TI (.ref i1) (.ref i2)) (hO:IsPair s.heap TO a b) (st1:S1 i s.heap) (st2:S2 i s.heap)
    (q:∀ h' tk,(∀ c o,c ≠ z → c ≠ TO → c ≠ i1 → c ≠ i2 → s.heap.get? c = some o → h'.get? c = some o) → Q none { s with heap:=h',toks:=tk }):wpAny (model prog w) A (pyNext (.ref z)) Q E s:=by
  have hT:s.TypeIs (.ref z) "zip":=⟨_,hz,rfl⟩
  unfold pyNext
  refine wpAny_bind (wpAny_attempt (wpAny_callSpecial?_slot (name:=Str.ofString "__next__") hT F.slot_zip_next (wpAny_call_entry F.slot_zip_next hT F.entry_zip_next (zipD_end W D1 D2 he hz hI hO st1 st2 fun h' tk e hk hs=>?_) (F.args_zip_next_1 _))))
  obtain ⟨o,ho,hc⟩:=hs
  exact wpAny_bind (wpAny_isInstance (T:="StopIteration") (b:=true) ⟨o,ho,hc⟩ isSubtype_stop (wpAny_pure (q _ _ hk)))
def itO (l:Addr):Obj:={ cls:=.type "tuple_iterator",data:=.fields #[.ref l,.int 0 0] }
theorem meets_zipT (l1 l2:Addr) (xs ys:Array Value) :
    Meets (Builtin.«zip.__new__» ⟨[.type "zip",.ref l1,.ref l2],[]⟩) (fun _ R s=>s.heap.IsTuple l1 xs ∧ s.heap.IsTuple l2 ys ∧
      ∀ g1 g2 g3 g4 g5:Heap,g1 = s.heap.push (itO l1) → g2 = g1.push (itO l2) → g3 = g2.push { cls:=.type "tuple",data:=.seq #[.ref s.heap.objs.size,.ref g1.objs.size] } → g4 = g3.push { cls:=.type "tuple",data:=.seq #[.none,.none] } →
        g5 = g4.push { cls:=.type "zip",data:=.fields #[.none,.bool false,.bool false,.ref g2.objs.size,.ref g3.objs.size] } → R (.ok (.ret (.ref g4.objs.size))) { s with heap:=g5 }) :=
  .of_wp fun prog w A R s h=>by
    obtain ⟨hp,g,d,tk,os⟩:=s; obtain ⟨h1,h2,h⟩:=h
    have hsub:=sub_zip
    have hA:Heap.IsTuple (Shared.heap ⟨hp,g,d,tk,os⟩) l1 xs:=h1
    have hB:Heap.IsTuple (Shared.heap ⟨hp.push (itO l1),g,d,tk,os⟩) l2 ys:=Heap.IsTuple.push h2 _
    unfold itO at hB
    wp_walk using wpAny_pyIter_tuple hA,wpAny_pyIter_tuple hB
    exact ⟨_,rfl,h _ _ _ _ _ rfl rfl rfl rfl rfl⟩
theorem call_zipT {l1 l2:Addr} {xs ys:Array Value} {Q:Value → Shared → Prop} (h1:s.heap.IsTuple l1 xs) (h2:s.heap.IsTuple l2 ys)
    (q:∀ h',IsZip h' (s.heap.objs.size + 4) (s.heap.objs.size + 2) (s.heap.objs.size + 3) .none → IsPair h' (s.heap.objs.size + 2) (.ref s.heap.objs.size) (.ref (s.heap.objs.size + 1)) → IsPair h' (s.heap.objs.size + 3) .none .none →
      h'.IsTupleIter s.heap.objs.size l1 0 → h'.IsTupleIter (s.heap.objs.size + 1) l2 0 → (∀ c o,s.heap.get? c = some o → h'.get? c = some o) → Q (.ref (s.heap.objs.size + 4)) { s with heap:=h' }) :
    wpAny (model prog w) A (call (.type "zip") [.ref l1,.ref l2]) Q E s:=by
  refine callType_new F.called_zip (by decide) (F.typeCall_zip_2 _ _) (F.newCall_zip_2 _ _) (fun obj=>F.args_object_init_3 obj _ _) F.entry_zip_new (meets_zipT l1 l2 xs ys) ⟨h1,h2,?_⟩
  intro g1 g2 g3 g4 g5 e1 e2 e3 e4 e5
  have n1:g1.objs.size = s.heap.objs.size + 1:=by rw [e1]; exact Heap.size_push ..
  have n2:g2.objs.size = s.heap.objs.size + 2:=by rw [e2,Heap.size_push,n1]
  have n3:g3.objs.size = s.heap.objs.size + 3:=by rw [e3,Heap.size_push,n2]
  have n4:g4.objs.size = s.heap.objs.size + 4:=by rw [e4,Heap.size_push,n3]
  have u1:∀ c o,s.heap.get? c = some o → g1.get? c = some o:=fun c o e=>by rw [e1]; exact Heap.get?_push_of_some _ e
  have u2:∀ c o,g1.get? c = some o → g2.get? c = some o:=fun c o e=>by rw [e2]; exact Heap.get?_push_of_some _ e
  have u3:∀ c o,g2.get? c = some o → g3.get? c = some o:=fun c o e=>by rw [e3]; exact Heap.get?_push_of_some _ e
  have u4:∀ c o,g3.get? c = some o → g4.get? c = some o:=fun c o e=>by rw [e4]; exact Heap.get?_push_of_some _ e
  have u5:∀ c o,g4.get? c = some o → g5.get? c = some o:=fun c o e=>by rw [e5]; exact Heap.get?_push_of_some _ e
  have a1:g1.get? s.heap.objs.size = some (itO l1):=by rw [e1]; exact Heap.get?_push_size _ rfl
  have a2:g2.get? g1.objs.size = some (itO l2):=by rw [e2]; exact Heap.get?_push_size _ rfl
  have a3:g3.get? g2.objs.size = some { cls:=.type "tuple",data:=.seq #[.ref s.heap.objs.size,.ref g1.objs.size] }:=by rw [e3]; exact Heap.get?_push_size _ rfl
  have a4:g4.get? g3.objs.size = some { cls:=.type "tuple",data:=.seq #[.none,.none] }:=by rw [e4]; exact Heap.get?_push_size _ rfl
  have a5:g5.get? g4.objs.size = some { cls:=.type "zip",data:=.fields #[.none,.bool false,.bool false,.ref g2.objs.size,.ref g3.objs.size] }:=by rw [e5]; exact Heap.get?_push_size _ rfl
  rw [n1] at a2 a3
  rw [n2] at a3 a5
  rw [n3] at a4 a5
  rw [n4] at a5
  show _ ∧ _
  rw [n4]
  exact ⟨⟨_,a5,rfl⟩,q g5 a5 (u5 _ _ (u4 _ _ a3)) (u5 _ _ a4) ⟨_,u5 _ _ (u4 _ _ (u3 _ _ (u2 _ _ a1))),rfl,rfl⟩ ⟨_,u5 _ _ (u4 _ _ (u3 _ _ a2)),rfl,rfl⟩ fun c o e=>u5 _ _ (u4 _ _ (u3 _ _ (u2 _ _ (u1 _ _ e))))⟩
end
end PySem
namespace L2
open PySem PySem.Spec PyProof.Rows
def Ittz (a b:Addr):It :=
  ⟨fun i H=>∃ xs ys x y,Rd H a (.tup xs) ∧ Rd H b (.tup ys) ∧ xs[i]? = some x ∧ ys[i]? = some y,fun i H v H'=>∃ T x y,H T = none ∧ v = .ref T ∧ (∀ xs,Rd H a (.tup xs) → xs[i]? = some x) ∧ (∀ ys,Rd H b (.tup ys) → ys[i]? = some y) ∧ H' = upd H T (.tup [x,y]),
    fun i H=>∃ xs ys,Rd H a (.tup xs) ∧ Rd H b (.tup ys) ∧ i = min xs.length ys.length⟩
theorem Rd.one {H:Hp} {a:Addr} {xs ys:List V} (h1:Rd H a (.tup xs)) (h2:Rd H a (.tup ys)):xs = ys:=by
  rcases h1 with h1 | ⟨o,h1⟩ <;> rcases h2 with h2 | ⟨o',h2⟩ <;> (rw [h1] at h2; cases h2 <;> rfl)
theorem Rd.ne {H:Hp} {a b:Addr} {u:HO} (h:Rd H a u) (n:H b = none):a ≠ b:=fun e=>by
  rcases h with h | ⟨o,h⟩ <;> (rw [e,n] at h; cases h)
structure ZipNew (z TI TO i1 i2:Addr):Prop where
  tz:TO ≠ z
  kz:TI ≠ z
  kt:TI ≠ TO
  k1:TI ≠ i1
  k2:TI ≠ i2
  z1:i1 ≠ z
  z2:i2 ≠ z
  t1:TO ≠ i1
  t2:TO ≠ i2
  ii:i1 ≠ i2
theorem ZipNew.of (n:Nat):ZipNew (n + 4) (n + 2) (n + 3) n (n + 1):=by constructor <;> (intro e; have e':(_:Nat) = _:=e; omega)
theorem ZipNew.away {z TI TO i1 i2 a b:Addr} (d:ZipNew z TI TO i1 i2) (ha:∀ c ∈ [z,TI,TO,i1,i2],a ≠ c) (hb:∀ c ∈ [z,TI,TO,i1,i2],b ≠ c):ZipAway z TI TO i1 i2 [i1,a] [i2,b] where
  zt:=d.tz
  kz:=d.kz
  kt:=d.kt
  k1:=d.k1
  k2:=d.k2
  z1:=by simp [Ne.symm d.z1,Ne.symm (ha z (by simp))]
  z2:=by simp [Ne.symm d.z2,Ne.symm (hb z (by simp))]
  t1:=by simp [d.t1,Ne.symm (ha TO (by simp))]
  t2:=by simp [d.t2,Ne.symm (hb TO (by simp))]
  m1:=by simp
  m2:=by simp
  o1:=by simp [d.ii,Ne.symm (hb i1 (by simp))]
  o2:=by simp [Ne.symm d.ii,Ne.symm (ha i2 (by simp))]
theorem turn_zipT {P:Program} {w:World} {K:PySem.W.Frag} {elts:List Expr} {kk:Nat} {tp:Pos} {z TI TO i1 i2:Addr} (a b:Addr) (d:ZipNew z TI TO i1 i2):Turn P w K (.Tuple elts kk tp) (Ittz a b) [z,TI,TO,i1,i2] z (fun i h=>IsZip h z TI TO .none ∧ IsPair h TI (.ref i1) (.ref i2) ∧ (∃ x y,IsPair h TO x y) ∧ h.IsTupleIter i1 a i ∧ h.IsTupleIter i2 b i) where
  mem:=by simp
  obj:=fun i h st c hc=>by
    obtain ⟨hz,hI,⟨x,y,hO⟩,⟨o1,g1,c1,d1⟩,⟨o2,g2,c2,d2⟩⟩:=st
    simp only [List.mem_cons,List.not_mem_nil,or_false] at hc
    rcases hc with rfl | rfl | rfl | rfl | rfl
    · exact ⟨_,hz,fun v q=>by have q':Data.fields _ = Data.cell v:=q; cases q'⟩
    · exact ⟨_,hI,fun v q=>by have q':Data.seq _ _ = Data.cell v:=q; cases q'⟩
    · exact ⟨_,hO,fun v q=>by have q':Data.seq _ _ = Data.cell v:=q; cases q'⟩
    · exact ⟨o1,g1,fun v q=>by rw [d1] at q; cases q⟩
    · exact ⟨o2,g2,fun v q=>by rw [d2] at q; cases q⟩
  keep:=fun i h h' st k=>by
    obtain ⟨hz,hI,⟨x,y,hO⟩,h1,h2⟩:=st
    exact ⟨k z (by simp) _ hz,k TI (by simp) _ hI,⟨x,y,k TO (by simp) _ hO⟩,h1.at fun o e=>k i1 (by simp) o e,h2.at fun o e=>k i2 (by simp) o e⟩
  item:=by
    intro X hP hw hK hc i pins s σ H E I hf st hg
    subst hP hw hK
    obtain ⟨xs,ys,x,y,ha,hb,hx,hy⟩:=hg
    obtain ⟨its,rv,p,_⟩:=I.tuple (.inl ha)
    obtain ⟨its2,rv2,p2,_⟩:=I.tuple (.inl hb)
    obtain ⟨u,hu,ru⟩:=rv.get hx
    obtain ⟨v,hv,rw2⟩:=rv2.get hy
    have hA:X.A.handled = none:=I.ok.hd hc
    obtain ⟨hz,hI,⟨x0,y0,hO⟩,h1,h2⟩:=id st
    have na:∀ c ∈ [z,TI,TO,i1,i2],a ≠ c:=fun c hc=>ha.ne (hf c hc).1
    have nb:∀ c ∈ [z,TI,TO,i1,i2],b ≠ c:=fun c hc=>hb.ne (hf c hc).1
    have li:i < its.toArray.size:=by have:=(List.getElem?_eq_some_iff.mp hu).1; simpa using this
    have li2:i < its2.toArray.size:=by have:=(List.getElem?_eq_some_iff.mp hv).1; simpa using this
    refine nextZ_item (d.away na nb) (Draws.tup (by exact hA) i1 a (na i1 (by simp)) its.toArray) (Draws.tup (by exact hA) i2 b (nb i2 (by simp)) its2.toArray) li li2 hz hI hO ⟨h1,p⟩ ⟨h2,p2⟩ fun h' tk u' v' hu' hv' a3 a4 a5 a6 a7 a8=>?_
    have eu:u' = u:=by
      have q:its.toArray[i]? = some u:=by simpa using hu
      rw [q] at hu'
      exact (Option.some.inj hu').symm
    have ev:v' = v:=by
      have q:its2.toArray[i]? = some v:=by simpa using hv
      rw [q] at hv'
      exact (Option.some.inj hv').symm
    subst eu ev
    refine ⟨_,rfl,wpAny_letOwnedTupleGo_zip (s:={ s with heap:=h',toks:=tk }) a3 fun g hz' e'=>?_⟩
    have kp:∀ c o,c ∉ [z,TI,TO,i1,i2] → s.heap.get? c = some o → g.get? c = some o:=fun c o hc q=>by
      simp only [List.mem_cons,List.not_mem_nil,or_false,not_or] at hc
      exact keepBut e' hc.1 (a8 c o hc.1 hc.2.2.1 hc.2.2.2.1 hc.2.2.2.2 q)
    have nT:∀ c ∈ [z,TI,TO,i1,i2],c ≠ s.heap.objs.size:=fun c hc=>by
      have:∃ o,s.heap.get? c = some o:=by
        simp only [List.mem_cons,List.not_mem_nil,or_false] at hc
        rcases hc with rfl | rfl | rfl | rfl | rfl
        · exact ⟨_,hz⟩
        · exact ⟨_,hI⟩
        · exact ⟨_,hO⟩
        · obtain ⟨o,q,_⟩:=h1; exact ⟨o,q⟩
        · obtain ⟨o,q,_⟩:=h2; exact ⟨o,q⟩
      obtain ⟨o,q⟩:=this
      exact Nat.ne_of_lt (Heap.lt_size q)
    have new:ObjOk X.prog X.w (upd H s.heap.objs.size (.tup [x,y])) g s.heap.objs.size (.tup [x,y]) :=
      ⟨by show 2 ≤ sizeLine; decide,[u',v'],.cons ru (.cons rw2 .nil),_,keepBut e' (Ne.symm (nT z (by simp))) a7,rfl,_,rfl⟩
    refine ⟨.ref s.heap.objs.size,_,I.turnedLaid (ch:=[z,TI,TO,i1,i2]) (t':=tk) hf kp (Nat.le_refl _) new,rfl,⟨s.heap.objs.size,x,y,I.hok.fresh (Nat.le_refl _),rfl,fun xs' h=>by rw [← ha.one h]; exact hx,fun ys' h=>by rw [← hb.one h]; exact hy,rfl⟩,?_,fun c hc=>?_⟩
    · exact ⟨hz',keepBut e' d.kz (a8 _ _ d.kz d.kt d.k1 d.k2 hI),⟨_,_,keepBut e' d.tz a4⟩,a5.1.at fun o q=>keepBut e' d.z1 q,a6.1.at fun o q=>keepBut e' d.z2 q⟩
    · rw [upd_ne (nT c hc)]; exact (hf c hc).1
  done:=by
    intro X hP hw hK hc i pins s σ H E I hf st hg
    subst hP hw hK
    obtain ⟨xs,ys,ha,hb,hi⟩:=hg
    obtain ⟨its,rv,p,_⟩:=I.tuple (.inl ha)
    obtain ⟨its2,rv2,p2,_⟩:=I.tuple (.inl hb)
    have hA:X.A.handled = none:=I.ok.hd hc
    obtain ⟨hz,hI,⟨x0,y0,hO⟩,h1,h2⟩:=id st
    have na:∀ c ∈ [z,TI,TO,i1,i2],a ≠ c:=fun c hc=>ha.ne (hf c hc).1
    have nb:∀ c ∈ [z,TI,TO,i1,i2],b ≠ c:=fun c hc=>hb.ne (hf c hc).1
    have e1:=rv.length
    have e2:=rv2.length
    refine nextZ_end (d.away na nb) (Draws.tup (by exact hA) i1 a (na i1 (by simp)) its.toArray) (Draws.tup (by exact hA) i2 b (nb i2 (by simp)) its2.toArray) (i:=i) (by simp only [List.size_toArray]; omega) hz hI hO ⟨h1,p⟩ ⟨h2,p2⟩ fun h' tk k1=>⟨rfl,I.turnedL (ch:=[z,TI,TO,i1,i2]) (t':=tk) hf fun c o hc q=>?_⟩
    simp only [List.mem_cons,List.not_mem_nil,or_false,not_or] at hc
    exact k1 c o hc.1 hc.2.2.1 hc.2.2.2.1 hc.2.2.2.2 q
  self:=fun _ _ _ _ _ st h=>wpAny_pyIter_zip st.1 h
section
variable {X:Cx}
def iZipT (ta:TA):TI:=fun σ H R=>ta σ H fun vs H1=>∃ a b xs ys,vs = [.ref a,.ref b] ∧ Rd H1 a (.tup xs) ∧ Rd H1 b (.tup ys) ∧ R (Ittz a b) H1
theorem pi_zipT {a b:Expr} {ta:TA} {p pos:Pos} {elts:List Expr} {kk:Nat} {tp:Pos} (hg:Gl X "zip") (hm:X.mg "zip" = none) (ha:PA X [a,b] ta) (hs:starEach [a,b] X.env = [(false,eval a X.env),(false,eval b X.env)]:=by rfl) (hs2:starEach [b] X.env = [(false,eval b X.env)]:=by rfl) :
    PI X (.Tuple elts kk tp) (.Call (.Name "zip" p) [a,b] [] pos) (iZipT ta):=by
  intro pins s σ H R I h
  refine Call_ (ld_blt I hg hm (show bootBuiltins "zip" = some (.type "zip") by decide +kernel) (PyProof.Rows.callWith_type1 (thn (ha pos pins s σ H _ I h) fun us s1 ⟨vs,H1,I1,r1,q1⟩=>?_) (by rw [hs,hs2]) (by rw [hs2]; rfl)))
  obtain ⟨l1,l2,xs,ys,e,h1,h2,q⟩:=q1
  subst e
  cases r1 with
  | cons r rr =>
    cases rr with
    | cons r' rr =>
      cases rr
      cases r
      cases r'
      obtain ⟨its,rv,p,hz⟩:=I1.tuple (.inl h1)
      obtain ⟨its2,rv2,p2,hz2⟩:=I1.tuple (.inl h2)
      refine call_zipT p p2 fun h' hz hI hO g1 g2 kp=>wpAny_pyIter_zip hz ⟨s1.heap.objs.size + 4,[s1.heap.objs.size + 4,s1.heap.objs.size + 2,s1.heap.objs.size + 3,s1.heap.objs.size,s1.heap.objs.size + 1],_,_,H1,rfl,I1.kept (t':=s1.toks) kp,turn_zipT l1 l2 (ZipNew.of _),⟨hz,hI,⟨_,_,hO⟩,g1,g2⟩,fun c hc=>?_,q⟩
      · have:s1.heap.objs.size ≤ c:=by
          simp only [List.mem_cons,List.not_mem_nil,or_false] at hc
          rcases hc with rfl | rfl | rfl | rfl | rfl
          · exact Nat.le_add_right _ _
          · exact Nat.le_add_right _ _
          · exact Nat.le_add_right _ _
          · exact Nat.le_refl _
          · exact Nat.le_add_right _ _
        exact I1.fpOk this (I1.hok.fresh this)
end
theorem pi_either {X:Cx} {tg e:Expr} {w1 w2:TI} (h1:PI X tg e w1) (h2:PI X tg e w2):PI X tg e (fun σ H R=>w1 σ H R ∨ w2 σ H R):=fun pins s σ H R I h=>h.elim (h1 pins s σ H R I) (h2 pins s σ H R I)
theorem comp_zipT {K:PySem.W.Frag} {a b:Addr} {xs ys:List V} {x0 x1:Str} {ix:List Nat} {ti:TT} {te:TE} {Q:VK} {σ:St} {H:Hp} (Pv:Nat → List V → Hp → Prop) (h0:Pv 0 [] H) (hl:∀ i zs H,Pv i zs H → Rd H a (.tup xs) ∧ Rd H b (.tup ys))
    (hs:∀ i x y zs H T (R:List V → Hp → Prop),xs[i]? = some x → ys[i]? = some y → Pv i zs H → H T = none → (∀ zs' H',Pv (i + 1) zs' H' → R zs' H') → ti (some x :: some y :: ix.map fun j=>(σ[j]?).join) (upd H T (.tup [x,y])) fun b H3=>if b = true then te (some x :: some y :: ix.map fun j=>(σ[j]?).join) H3 fun v H4=>zs.length < sizeLine ∧ R (zs ++ [v]) H4 else R zs H3)
    (hd:∀ zs H,Pv (min xs.length ys.length) zs H → zs.length ≤ sizeLine ∧ ∀ D,H D = none → Q (.ref D) (upd H D (.lst zs))) :
    ∃ W:Nat → Nat → List V → St → Hp → Prop,(∃ m,W 0 m [] (capS σ [x0,x1] ix) H) ∧ ∀ i m zs σ' H,W i m zs σ' H →
      ((Ittz a b).stop i H ∧ zs.length ≤ sizeLine ∧ ∀ D,H D = none → Q (.ref D) (upd H D (.lst zs))) ∨
      ((Ittz a b).go i H ∧ ∀ x H',(Ittz a b).yld i H x H' → gTup K 2 (gCons (gName 0) (gCons (gName 1) gNil)) x σ' H' fun σ2 H2=>ti σ2 H2 fun b H3=>if b = true then te σ2 H3 fun y H4=>zs.length < sizeLine ∧ ∃ m',m' < m ∧ W (i + 1) m' (zs ++ [y]) σ2 H4 else ∃ m',m' < m ∧ W (i + 1) m' zs σ2 H3):=by
  refine ⟨fun i m zs σ' H=>m = min xs.length ys.length - i ∧ i ≤ min xs.length ys.length ∧ (∃ o o',σ' = o :: o' :: ix.map fun j=>(σ[j]?).join) ∧ Pv i zs H,⟨_,rfl,Nat.zero_le _,⟨none,none,rfl⟩,h0⟩,?_⟩
  rintro i m zs σ' H ⟨rfl,hi,⟨o,o',rfl⟩,p⟩
  obtain ⟨q1,q2⟩:=hl i zs H p
  by_cases hlt:i < min xs.length ys.length
  · have l1:i < xs.length:=by omega
    have l2:i < ys.length:=by omega
    refine .inr ⟨⟨xs,ys,xs[i],ys[i],q1,q2,by simp [l1],by simp [l2]⟩,fun v H' y=>?_⟩
    obtain ⟨T,x,y,hT,rfl,hx,hy,rfl⟩:=y
    refine ⟨T,[x,y],rfl,SqT.of upd_same,rfl,x,[y],rfl,y,[],rfl,rfl,?_⟩
    exact hs i x y zs H T (fun zs' H4=>∃ m',m' < min xs.length ys.length - i ∧ m' = min xs.length ys.length - (i + 1) ∧ i + 1 ≤ min xs.length ys.length ∧ (∃ o o',(some x :: some y :: ix.map fun j=>(σ[j]?).join) = o :: o' :: ix.map fun j=>(σ[j]?).join) ∧ Pv (i + 1) zs' H4) (hx xs q1) (hy ys q2) p hT
      fun zs' H4 z=>⟨min xs.length ys.length - (i + 1),by omega,rfl,by omega,⟨_,_,rfl⟩,z⟩
  · have e:i = min xs.length ys.length:=by omega
    subst e
    exact .inl ⟨⟨xs,ys,q1,q2,rfl⟩,hd zs H p⟩
end L2
namespace HT
open PySem PySem.Spec PyProof.Rows
section
variable {prog:Program} {w:World} {A:Around} {E:Value → Shared → Prop} {s:Shared}
theorem getItem_tuple_all {t sl:Addr} {items:Array Value} {vl vu:Value} {lo hi:Option Int} {Q:Value → Shared → Prop} (ht:IsTup s.heap t items) (hs:s.heap.IsSliceOf sl vl vu .none) (pl:IsPart vl lo) (pu:IsPart vu hi)
    (hw:sIx items.size 0 lo = 0 ∧ sIx items.size items.size hi = items.size) (h:Q (.ref t) s):wpAny (model prog w) A (getItem (.ref t) (.ref sl)) Q E s:=by
  obtain ⟨os,hos,hcs,hds⟩:=id hs
  have hTs:s.TypeIs (.ref sl) "slice":=⟨os,hos,hcs⟩
  unfold getItem
  try with_reducible refine wpAny_holding ?_
  first | refine wpAny_bind (wpAny_pure ?_) | skip
  refine wpAny_bind (wpAny_sequenceKey ht.typeIs (by decide) ?_)
  refine wpAny_bind (wpAny_callSpecial?_slot (name:=Str.ofString "__getitem__") ht.typeIs PyProof.Rows.slot_tuple_getitem
    (wpAny_call_entry PyProof.Rows.slot_tuple_getitem ht.typeIs entry_tuple_getitem ?_ (args_tuple_getitem _ _)))
  show wpAny _ _ (Builtin.Tuple.tupleItemsOf (.ref t) >>= _) _ _ s
  refine wpAny_bind (tupleItemsOf_ ht ?_)
  refine wpAny_bind (wpAny_typeOf hTs ?_)
  rw [if_pos (by decide)]
  refine wpAny_bind (sliceApplied_gen hs pl pu ?_)
  have hyes:(((sIx items.size 0 lo:Nat):Int) == 0 && (1:Int) == 1 && (sIx items.size items.size hi - sIx items.size 0 lo) == items.size) = true:=by
    rw [hw.1,hw.2]
    simp
  show wpAny _ _ (if (((sIx items.size 0 lo:Nat):Int) == 0 && (1:Int) == 1 && (sIx items.size items.size hi - sIx items.size 0 lo) == items.size) = true then _ else _) _ _ s
  rw [if_pos hyes]
  refine wpAny_bind (m:=Builtin.Tuple.tupleIsExact (.ref t)) ?_
  refine wpAny_bind (wpAny_typeOf ht.typeIs (wpAny_pure ?_))
  rw [if_pos (by decide)]
  exact wpAny_bind (wpAny_rule (wpAny_pure ⟨_,rfl,wpAny_pure h⟩))
end
end HT
namespace L2
open PySem PySem.Spec PyProof.Rows
def rSlTa (K:PySem.W.Frag):V → Option Int → Option Int → Hp → VK → Prop:=fun x lo hi H Q=>∃ a xs,x = .ref a ∧ SqT K H a xs ∧
  ((HT.sIx xs.length 0 lo = 0 ∧ HT.sIx xs.length xs.length hi = xs.length) → Q (.ref a) H) ∧ (¬ (HT.sIx xs.length 0 lo = 0 ∧ HT.sIx xs.length xs.length hi = xs.length) → ∀ p,H p = none → Q (.ref p) (upd H p (.tup (cutV xs lo hi))))
theorem sl_tupA {X:Cx}:SlR X (rSlTa X.K):=by
  intro pins s σ H x v vl vu lo hi sl Q I rx hs pl pu h
  obtain ⟨a,xs,rfl,hx,q1,q2⟩:=h
  by_cases hw:HT.sIx xs.length 0 lo = 0 ∧ HT.sIx xs.length xs.length hi = xs.length
  · cases rx
    obtain ⟨its,r,ht,hz⟩:=I.tuple hx
    have hlen:its.toArray.size = xs.length:=by rw [List.size_toArray]; exact r.length.symm
    refine ⟨"tuple",_,PyProof.Rows.slot_tuple_getitem.lookup,ht.typeIs,?_⟩
    exact HT.getItem_tuple_all ht hs pl pu (by rw [hlen]; exact hw) ⟨.ref a,H,I,rfl,q1 hw⟩
  · exact sl_tup pins s σ H _ v vl vu lo hi sl Q I rx hs pl pu ⟨a,xs,rfl,hx,hw,q2 hw⟩
end L2
namespace L2
open PySem PySem.Spec PyProof.Rows
section
variable {X:Cx}
def rCount (K:PySem.W.Frag):V → List V → Hp → VK → Prop:=fun x vs H Q=>∃ l xs y,x = .ref l ∧ vs = [y] ∧ SqL K H l xs ∧ flatV y = true ∧ xs.all flatV = true ∧ Q (.int ((xs.countP fun z=>eqV z y:Nat):Int)) H
theorem mt_count:MtM X "list.count" (rCount X.K):=by
  intro pins s σ H x vs v us Q I rx rv h
  obtain ⟨t,xs,y,rfl,rfl,hq,fy,fs,q⟩:=h
  cases rx
  obtain ⟨u,rfl,ru⟩:=rv.one
  obtain ⟨its,r,p,hz⟩:=I.list hq
  obtain ⟨⟨oc,od,oda,osl⟩,ho,hc,n,hd⟩:=p.isList
  replace hc:oc = .type "list":=hc
  replace hd:oda = .seq its.toArray n:=hd
  subst hc hd
  refine call_meets F.slot_list_count ⟨_,ho,rfl⟩ F.entry_list_count (F.args_list_count_2 _ _) (SeqAt.list_countAt t its.toArray n od osl u (eqU y)) ⟨ho,fun w hw=>mem_eqAt ru fy r fs w (by simpa using hw),?_⟩
  refine ⟨.int _,H,I.tok _,⟨_,rfl⟩,?_⟩
  rw [show its.toArray.toList = its by simp,count_eqU r fs]
  exact q
def rInD (K:PySem.W.Frag):R2:=fun x y H Q=>∃ p xs d ds,y = .ref p ∧ SqL K H p xs ∧ DatV K H x d ∧ DatVs K H xs ds ∧ SeqAt.shaped d = true ∧ (∀ e ∈ ds,SeqAt.shaped e = true) ∧ Q (.bl (ds.any fun e=>PyData.eqv e d)) H
inductive Two {α β:Type} (R:α → β → Prop):List α → List β → Prop
  | nil:Two R [] []
  | cons {a:α} {b:β} {as:List α} {bs:List β}:R a b → Two R as bs → Two R (a :: as) (b :: bs)
theorem DatVs.reads {pins:List (Addr × Obj)} {σ:St} {H:Hp} {s:Shared} (I:Inv X pins σ H s):∀ {xs:List V} {ds:List PyData},DatVs X.K H xs ds → (∀ e ∈ ds,SeqAt.shaped e = true) → ∀ us,Vals xs us → Two (fun u d=>(∃ as,Reads s.heap u d as) ∧ SeqAt.shaped d = true) us ds
  | _,_,.nil,_,_,.nil=>.nil
  | _,_,.cons h1 h2,f,_,.cons r1 r2=>.cons ⟨h1.reads I _ r1,f _ List.mem_cons_self⟩ (DatVs.reads I h2 (fun e he=>f e (List.mem_cons_of_mem _ he)) _ r2)
theorem any_two {d:PyData} {e:Value → Bool} {R:Value → PyData → Prop}:∀ {us:List Value} {ds:List PyData},Two R us ds → (∀ u d',R u d' → e u = PyData.eqv d' d) → us.any e = ds.any fun x=>PyData.eqv x d
  | _,_,.nil,_=>rfl
  | u :: us,d' :: ds,.cons r t,f=>by
    rw [List.any_cons,List.any_cons,f u d' r,any_two t f]
theorem all_two {α β:Type} {R:α → β → Prop}:∀ {us:List α} {ds:List β},Two R us ds → ∀ u ∈ us,∃ d,R u d
  | _,_,.nil,u,hu=>by cases hu
  | v :: us,d :: ds,.cons r t,u,hu=>by
    rcases List.mem_cons.mp hu with rfl | hu
    · exact ⟨d,r⟩
    · exact all_two t u hu
theorem op_inD (hu:X.A.units + 66 < cLine):OpR X (compareOp .In) (rInD X.K):=by
  intro pins s σ H x y v u Q I rx ry h
  obtain ⟨p,xs,d,ds,rfl,hq,hd,hds,s1,s2,q⟩:=h
  cases ry
  obtain ⟨as,ra⟩:=hd.reads I v rx
  obtain ⟨its,r,pl,hz⟩:=I.list hq
  have F2:=DatVs.reads I hds s2 its r
  classical
  let e:Value → Bool:=fun w=>if h:∃ d',(∃ bs,Reads s.heap w d' bs) ∧ SeqAt.shaped d' = true then PyData.eqv h.choose d else false
  have he:∀ w d',((∃ bs,Reads s.heap w d' bs) ∧ SeqAt.shaped d' = true) → e w = PyData.eqv d' d:=fun w d' hx=>by
    have hx':∃ d',(∃ bs,Reads s.heap w d' bs) ∧ SeqAt.shaped d' = true:=⟨d',hx⟩
    show (if h:∃ d',(∃ bs,Reads s.heap w d' bs) ∧ SeqAt.shaped d' = true then PyData.eqv h.choose d else false) = _
    rw [dif_pos hx']
    obtain ⟨⟨cs,rc⟩,sc⟩:=hx'.choose_spec
    obtain ⟨⟨bs,rb⟩,sb⟩:=hx
    rw [SeqAt.Reads.unique _ _ _ _ _ (SeqAt.canLay_of_shaped sc) rc rb]
  refine SeqAt.in_listAt e pl.isList (fun w hw=>?_) ⟨.bl _,H,I,rfl,?_⟩
  · obtain ⟨d',hx⟩:=all_two F2 w (by simpa using hw)
    rw [he w d' hx]
    obtain ⟨⟨bs,rb⟩,sb⟩:=hx
    exact SeqAt.eqAt_reads d' d X.A.in1 s w v bs as rb ra (SeqAt.canLay_of_shaped sb) (SeqAt.canLay_of_shaped s1) (SeqAt.room_of_shaped sb (by rw [show X.A.in1.units = X.A.units + 1 from rfl]; omega))
  · rw [show its.toArray.any e = its.any e by simp,any_two F2 he]
    exact q
end
end L2
namespace SH
open PySem L2
theorem cut_toN {xs:List V} {n:Nat} (h1:0 < n) (h2:n ≤ xs.length):cutV xs none (some (-(n:Int))) = xs.take (xs.length - n):=by
  unfold cutV HT.sIx
  simp only [List.drop_zero]
  rw [if_pos (by omega),show (-(n:Int) + (xs.length:Int)).toNat - 0 = xs.length - n by omega]
theorem cut_fromN {xs:List V} {n:Nat} (h1:0 < n) (h2:n ≤ xs.length):cutV xs (some (-(n:Int))) none = xs.drop (xs.length - n):=by
  unfold cutV HT.sIx
  simp only []
  rw [if_pos (by omega),show (-(n:Int) + (xs.length:Int)).toNat = xs.length - n by omega]
  exact List.take_of_length_le (by rw [List.length_drop]; omega)
end SH
namespace L2
open PySem PySem.Spec PyProof.Rows
theorem comp_list2 {K:PySem.W.Frag} {a:Addr} {xs:List V} {x0 x1:Str} {ix:List Nat} {ti:TT} {te:TE} {Q:VK} {σ:St} {H:Hp} (Pv:Nat → List V → Hp → Prop) (h0:Pv 0 [] H) (hl:∀ i ys H,i ≤ xs.length → Pv i ys H → SqL K H a xs)
    (hs:∀ i x ys H,xs[i]? = some x → Pv i ys H → ∃ T u v,x = .ref T ∧ SqT K H T [u,v] ∧ ∀ R:List V → Hp → Prop,(∀ ys' H',Pv (i + 1) ys' H' → R ys' H') → ti (some u :: some v :: ix.map fun j=>(σ[j]?).join) H fun b H3=>if b = true then te (some u :: some v :: ix.map fun j=>(σ[j]?).join) H3 fun y H4=>ys.length < sizeLine ∧ R (ys ++ [y]) H4 else R ys H3)
    (hd:∀ ys H,Pv xs.length ys H → ys.length ≤ sizeLine ∧ ∀ D,H D = none → Q (.ref D) (upd H D (.lst ys))) :
    ∃ W:Nat → Nat → List V → St → Hp → Prop,(∃ m,W 0 m [] (capS σ [x0,x1] ix) H) ∧ ∀ i m ys σ' H,W i m ys σ' H →
      ((Itl K a).stop i H ∧ ys.length ≤ sizeLine ∧ ∀ D,H D = none → Q (.ref D) (upd H D (.lst ys))) ∨
      ((Itl K a).go i H ∧ ∀ x H',(Itl K a).yld i H x H' → gTup K 2 (gCons (gName 0) (gCons (gName 1) gNil)) x σ' H' fun σ2 H2=>ti σ2 H2 fun b H3=>if b = true then te σ2 H3 fun y H4=>ys.length < sizeLine ∧ ∃ m',m' < m ∧ W (i + 1) m' (ys ++ [y]) σ2 H4 else ∃ m',m' < m ∧ W (i + 1) m' ys σ2 H3):=by
  refine ⟨fun i m ys σ' H=>m = xs.length - i ∧ i ≤ xs.length ∧ (∃ o o',σ' = o :: o' :: ix.map fun j=>(σ[j]?).join) ∧ Pv i ys H,⟨xs.length,by simp,Nat.zero_le _,⟨none,none,rfl⟩,h0⟩,?_⟩
  rintro i m ys σ' H ⟨rfl,hi,⟨o,o',rfl⟩,p⟩
  have q:=hl i ys H hi p
  by_cases hlt:i < xs.length
  · refine .inr ⟨⟨xs,xs[i],q,by simp [hlt]⟩,fun x H' y=>?_⟩
    obtain ⟨e,y⟩:=y
    subst e
    obtain ⟨T,u,v,rfl,hT,h⟩:=hs i x ys _ (y xs q) p
    exact ⟨T,[u,v],rfl,hT,rfl,u,[v],rfl,v,[],rfl,rfl,h (fun ys' H4=>∃ m',m' < xs.length - i ∧ m' = xs.length - (i + 1) ∧ i + 1 ≤ xs.length ∧ (∃ o o',(some u :: some v :: ix.map fun j=>(σ[j]?).join) = o :: o' :: ix.map fun j=>(σ[j]?).join) ∧ Pv (i + 1) ys' H4)
      fun ys' H4 z=>⟨xs.length - (i + 1),by omega,rfl,hlt,⟨_,_,rfl⟩,z⟩⟩
  · have e:i = xs.length:=by omega
    subst e
    exact .inl ⟨⟨xs,q,Nat.le_refl _⟩,hd ys H p⟩
theorem tcomp_list2 {K:PySem.W.Frag} {a:Addr} {xs:List V} {x0 x1:Str} {ix:List Nat} {wi:TI} {ti:TT} {te:TE} {Q:VK} {σ:St} {H H1:Hp} (hi:∀ R:It → Hp → Prop,R (Itl K a) H1 → wi σ H R) (Pv:Nat → List V → Hp → Prop) (h0:Pv 0 [] H1) (hl:∀ i ys H,i ≤ xs.length → Pv i ys H → SqL K H a xs)
    (hs:∀ i x ys H,xs[i]? = some x → Pv i ys H → ∃ T u v,x = .ref T ∧ SqT K H T [u,v] ∧ ∀ R:List V → Hp → Prop,(∀ ys' H',Pv (i + 1) ys' H' → R ys' H') → ti (some u :: some v :: ix.map fun j=>(σ[j]?).join) H fun b H3=>if b = true then te (some u :: some v :: ix.map fun j=>(σ[j]?).join) H3 fun y H4=>ys.length < sizeLine ∧ R (ys ++ [y]) H4 else R ys H3)
    (hd:∀ ys H,Pv xs.length ys H → ys.length ≤ sizeLine ∧ ∀ D,H D = none → Q (.ref D) (upd H D (.lst ys))):tComp [x0,x1] ix wi (gTup K 2 (gCons (gName 0) (gCons (gName 1) gNil))) ti te σ H Q:=hi _ (comp_list2 Pv h0 hl hs hd)
theorem tcomp_tupW {K:PySem.W.Frag} {x0:Str} {ix:List Nat} {wi:TI} {g:TG} {ti:TT} {te:TE} {Q:VK} {σ:St} {H:Hp} (S:Addr → Hp → Prop) (hi:∀ R:It → Hp → Prop,(∀ a H1,S a H1 → R (Itt K a) H1) → wi σ H R) (h:∀ a H1,S a H1 → tComp [x0] ix (fun _ _ R=>R (Itt K a) H1) g ti te σ H Q):tComp [x0] ix wi g ti te σ H Q:=hi _ h
theorem tcomp_listW {K:PySem.W.Frag} {x0:Str} {ix:List Nat} {wi:TI} {g:TG} {ti:TT} {te:TE} {Q:VK} {σ:St} {H:Hp} (S:Addr → Hp → Prop) (hi:∀ R:It → Hp → Prop,(∀ a H1,S a H1 → R (Itl K a) H1) → wi σ H R) (h:∀ a H1,S a H1 → tComp [x0] ix (fun _ _ R=>R (Itl K a) H1) g ti te σ H Q):tComp [x0] ix wi g ti te σ H Q:=hi _ h
theorem hu66 {k:Nat} {A:Around} (r:Room k A):A.units + 66 < cLine:=by
  have:=r.un
  omega
theorem tIfS_open {c:TT} {t u:TS} {D:Ends} {σ:St} {H:Hp} (P:Bool → Hp → Prop) (hc:∀ G:Bool → Hp → Prop,(∀ b H1,P b H1 → G b H1) → c σ H G) (ht:∀ H1,P true H1 → t D σ H1) (hu:∀ H1,P false H1 → u D σ H1):tIfS c t u D σ H:=hc _ fun b H1 p=>by
  cases b with
  | true=>rw [if_pos rfl]; exact ht H1 p
  | false=>rw [if_neg (by decide)]; exact hu H1 p
end L2
namespace K10
open PySem L2 SH
local macro_rules | `(tactic| and_intros)=>`(tactic| simp only [rExtend,rSetL,gSub,iRng3,tSeq,tNext,tRet,tRetN,tAsg,tIfS,tDrop,tVar,tC,tOp,tUn,rI0,rI,rU,rEq,rNe,tTest,tB,tCB,tCons,tNil,tLst,tTup,tSl,tNoPart,tPart,rSlS,rSlL,rIxL,rIxT,rIxS,tCall,tMeth,tMake,tAnd,tOr,tNot,tAndV,tOrV,tNotV,tIf,tChain,gName,tFld,sFld,tBM,tBM0,rAppend,rInsert,tRaise,tNever,CDiv,CMul,L2.start,scal_ii,scal_ss,scal_bb,cxOf,cxOfN,Cx.suite,Cx.comp,rLenL,rLenT,rListL,rListT,rTupL,rTupT,rIsiT,iRng1,iRng2,iList,iTup,iStr,gTup,gCons,gNil,iEnumT,iZipT,tDIn,rDictP,rRange1,rRange2,rListR,rTupF,tCountF,rCountT,tAug,ipI,rSlT,rSlTa,iTup,rCatT,rCat,rPop,rInD,rCount,List.set_cons_zero,List.set_cons_succ,List.getElem?_cons_zero,List.getElem?_cons_succ,List.map_cons,List.map_nil,List.length_cons,List.length_nil,List.replicate_succ,List.replicate_zero,Nat.reduceSub,Nat.reduceAdd,List.cons_append,List.nil_append,List.append_nil,V.int.injEq,V.str.injEq,V.bl.injEq,V.ref.injEq,V.ty.injEq,Option.some.injEq,List.cons.injEq,exists_eq_left',exists_eq_left,exists_eq_right,exists_eq_right',exists_and_left,exists_and_right,and_true,true_and,and_assoc,decide_eq_true_eq,Bool.not_eq_true',decide_eq_false_iff_not,Bool.not_true,Bool.not_false,Bool.false_eq_true,if_false,if_true,eq_self,Bool.not_eq_true,Bool.true_eq_false,reduceCtorEq,false_and,exists_false,exists_const,List.reduceReplicate,Int.reduceLT,Int.reduceLE,Nat.reduceLT,Nat.reduceLeDiff,Int.reduceNeg,List.getElem?_nil,Option.join_some,Option.join_none,List.set_nil,ite_self,not_true_eq_false,not_false_eq_true])
def top (i:Nat):Stmt:=PySem.Challenge.pw_shrinkhouse_k10_what_holds.main.body.getD i (.Pass ⟨0,0,0,0⟩)
abbrev s_Has_init:Stmt:=inClass (top 4) 0
abbrev s_Has_holds:Stmt:=inClass (top 4) 1
abbrev s_Many_init:Stmt:=inClass (top 5) 0
abbrev s_Many_holds:Stmt:=inClass (top 5) 1
abbrev s_Pair_init:Stmt:=inClass (top 6) 0
abbrev s_Before_holds:Stmt:=inClass (top 7) 0
abbrev s_Under_holds:Stmt:=inClass (top 8) 0
abbrev s_Beside_holds:Stmt:=inClass (top 9) 0
abbrev s_Joint_init:Stmt:=inClass (top 10) 0
abbrev s_All_holds:Stmt:=inClass (top 11) 0
abbrev s_Any_holds:Stmt:=inClass (top 12) 0
abbrev s_Not_init:Stmt:=inClass (top 13) 0
abbrev s_Not_holds:Stmt:=inClass (top 13) 1
abbrev s_is_whole:Stmt:=top 20
abbrev s_is_mark:Stmt:=top 21
abbrev s_check_list:Stmt:=top 28
abbrev s_check_marks:Stmt:=top 29
abbrev s_check_node:Stmt:=top 30
abbrev s_check_nodes:Stmt:=top 31
abbrev s_check_lines:Stmt:=top 32
abbrev s_marks_at:Stmt:=top 33
abbrev s_places_of:Stmt:=top 34
abbrev s_stands_ahead:Stmt:=top 35
abbrev s_stands_right_ahead:Stmt:=top 36
abbrev s_Thing_init:Stmt:=inClass (top 37) 0
abbrev s_Thing_many_of:Stmt:=inClass (top 37) 2
abbrev s_Thing_is_before:Stmt:=inClass (top 37) 3
abbrev s_Row_init:Stmt:=inClass (top 38) 0
abbrev s_Row_is_under:Stmt:=inClass (top 38) 5
abbrev s_Row_is_beside:Stmt:=inClass (top 38) 6
abbrev s_Forest_init:Stmt:=inClass (top 39) 0
abbrev s_Forest_many:Stmt:=inClass (top 39) 1
abbrev s_Forest_standing:Stmt:=inClass (top 39) 4
abbrev s_Forest_is_under:Stmt:=inClass (top 39) 5
abbrev s_Forest_is_beside:Stmt:=inClass (top 39) 6
abbrev s_Forest_hanging:Stmt:=inClass (top 39) 7
abbrev s_Table_init:Stmt:=inClass (top 40) 0
abbrev s_Table_is_under:Stmt:=inClass (top 40) 5
abbrev s_Table_is_beside:Stmt:=inClass (top 40) 6
abbrev s__law_cell_at:Stmt:=top 42
abbrev s__law_names:Stmt:=top 43
abbrev s__law_data:Stmt:=top 44
abbrev s__law_thing:Stmt:=top 45
abbrev s__law_spots:Stmt:=top 46
abbrev s__law_next_deep:Stmt:=top 47
abbrev s__law_pairs:Stmt:=top 48
abbrev s__law_holds:Stmt:=top 49
abbrev s__law_leaf:Stmt:=top 50
abbrev s__law_term:Stmt:=top 51
abbrev s__law_fault:Stmt:=top 52
abbrev s__law_whole_term:Stmt:=top 53
abbrev s_law:Stmt:=top 54
theorem sc_Has_init:FnScope ["self","mark"] ["self","mark"] (defScope s_Has_init):=⟨rfl,rfl,rfl,by decide +kernel,rfl,by decide +kernel,by decide +kernel⟩
theorem sc_Has_holds:FnScope ["self","thing"] ["self","thing"] (defScope s_Has_holds):=⟨rfl,rfl,rfl,by decide +kernel,rfl,by decide +kernel,by decide +kernel⟩
theorem sc_Many_init:FnScope ["self","number","mark"] ["self","number","mark"] (defScope s_Many_init):=⟨rfl,rfl,rfl,by decide +kernel,rfl,by decide +kernel,by decide +kernel⟩
theorem sc_Many_holds:FnScope ["self","thing"] ["self","thing"] (defScope s_Many_holds):=⟨rfl,rfl,rfl,by decide +kernel,rfl,by decide +kernel,by decide +kernel⟩
theorem sc_Pair_init:FnScope ["self","one","other"] ["self","one","other"] (defScope s_Pair_init):=⟨rfl,rfl,rfl,by decide +kernel,rfl,by decide +kernel,by decide +kernel⟩
theorem sc_Before_holds:FnScope ["self","thing"] ["self","thing"] (defScope s_Before_holds):=⟨rfl,rfl,rfl,by decide +kernel,rfl,by decide +kernel,by decide +kernel⟩
theorem sc_Under_holds:FnScope ["self","thing"] ["self","thing"] (defScope s_Under_holds):=⟨rfl,rfl,rfl,by decide +kernel,rfl,by decide +kernel,by decide +kernel⟩
theorem sc_Beside_holds:FnScope ["self","thing"] ["self","thing"] (defScope s_Beside_holds):=⟨rfl,rfl,rfl,by decide +kernel,rfl,by decide +kernel,by decide +kernel⟩
theorem sc_Joint_init:FnScope ["self","parts"] ["self","parts"] (defScope s_Joint_init):=⟨rfl,rfl,rfl,by decide +kernel,rfl,by decide +kernel,by decide +kernel⟩
theorem sc_All_holds:FnScope ["self","thing","part"] ["self","thing"] (defScope s_All_holds):=⟨rfl,rfl,rfl,by decide +kernel,rfl,by decide +kernel,by decide +kernel⟩
theorem sc_Any_holds:FnScope ["self","thing","part"] ["self","thing"] (defScope s_Any_holds):=⟨rfl,rfl,rfl,by decide +kernel,rfl,by decide +kernel,by decide +kernel⟩
theorem sc_Not_init:FnScope ["self","part"] ["self","part"] (defScope s_Not_init):=⟨rfl,rfl,rfl,by decide +kernel,rfl,by decide +kernel,by decide +kernel⟩
theorem sc_Not_holds:FnScope ["self","thing"] ["self","thing"] (defScope s_Not_holds):=⟨rfl,rfl,rfl,by decide +kernel,rfl,by decide +kernel,by decide +kernel⟩
theorem sc_is_whole:FnScope ["thing"] ["thing"] (defScope s_is_whole):=⟨rfl,rfl,rfl,by decide +kernel,rfl,by decide +kernel,by decide +kernel⟩
theorem sc_is_mark:FnScope ["thing"] ["thing"] (defScope s_is_mark):=⟨rfl,rfl,rfl,by decide +kernel,rfl,by decide +kernel,by decide +kernel⟩
theorem sc_check_list:FnScope ["thing","most"] ["thing","most"] (defScope s_check_list):=⟨rfl,rfl,rfl,by decide +kernel,rfl,by decide +kernel,by decide +kernel⟩
theorem sc_check_marks:FnScope ["marks","most","mark"] ["marks","most"] (defScope s_check_marks):=⟨rfl,rfl,rfl,by decide +kernel,rfl,by decide +kernel,by decide +kernel⟩
theorem sc_check_node:FnScope ["node","deepest"] ["node","deepest"] (defScope s_check_node):=⟨rfl,rfl,rfl,by decide +kernel,rfl,by decide +kernel,by decide +kernel⟩
theorem sc_check_nodes:FnScope ["nodes","deepest","node"] ["nodes"] (defScope s_check_nodes):=⟨rfl,rfl,rfl,by decide +kernel,rfl,by decide +kernel,by decide +kernel⟩
theorem sc_check_lines:FnScope ["lines","line"] ["lines"] (defScope s_check_lines):=⟨rfl,rfl,rfl,by decide +kernel,rfl,by decide +kernel,by decide +kernel⟩
theorem sc_marks_at:FnScope ["marks","places"] ["marks","places"] (defScope s_marks_at):=⟨rfl,rfl,rfl,by decide +kernel,rfl,by decide +kernel,by decide +kernel⟩
theorem sc_places_of:FnScope ["marks","mark"] ["marks","mark"] (defScope s_places_of):=⟨rfl,rfl,rfl,by decide +kernel,rfl,by decide +kernel,by decide +kernel⟩
theorem sc_stands_ahead:FnScope ["marks","one","other","seen","mark"] ["marks","one","other"] (defScope s_stands_ahead):=⟨rfl,rfl,rfl,by decide +kernel,rfl,by decide +kernel,by decide +kernel⟩
theorem sc_stands_right_ahead:FnScope ["marks","one","other"] ["marks","one","other"] (defScope s_stands_right_ahead):=⟨rfl,rfl,rfl,by decide +kernel,rfl,by decide +kernel,by decide +kernel⟩
theorem sc_Thing_init:FnScope ["self","spot_marks"] ["self","spot_marks"] (defScope s_Thing_init):=⟨rfl,rfl,rfl,by decide +kernel,rfl,by decide +kernel,by decide +kernel⟩
theorem sc_Thing_many_of:FnScope ["self","mark"] ["self","mark"] (defScope s_Thing_many_of):=⟨rfl,rfl,rfl,by decide +kernel,rfl,by decide +kernel,by decide +kernel⟩
theorem sc_Thing_is_before:FnScope ["self","one","other"] ["self","one","other"] (defScope s_Thing_is_before):=⟨rfl,rfl,rfl,by decide +kernel,rfl,by decide +kernel,by decide +kernel⟩
theorem sc_Row_init:FnScope ["self","marks"] ["self","marks"] (defScope s_Row_init):=⟨rfl,rfl,rfl,by decide +kernel,rfl,by decide +kernel,by decide +kernel⟩
theorem sc_Row_is_under:FnScope ["self","one","other"] ["self","one","other"] (defScope s_Row_is_under):=⟨rfl,rfl,rfl,by decide +kernel,rfl,by decide +kernel,by decide +kernel⟩
theorem sc_Row_is_beside:FnScope ["self","one","other"] ["self","one","other"] (defScope s_Row_is_beside):=⟨rfl,rfl,rfl,by decide +kernel,rfl,by decide +kernel,by decide +kernel⟩
theorem sc_Forest_init:FnScope ["self","nodes"] ["self","nodes"] (defScope s_Forest_init):=⟨rfl,rfl,rfl,by decide +kernel,rfl,by decide +kernel,by decide +kernel⟩
theorem sc_Forest_many:FnScope ["self"] ["self"] (defScope s_Forest_many):=⟨rfl,rfl,rfl,by decide +kernel,rfl,by decide +kernel,by decide +kernel⟩
theorem sc_Forest_standing:FnScope ["self","mark"] ["self","mark"] (defScope s_Forest_standing):=⟨rfl,rfl,rfl,by decide +kernel,rfl,by decide +kernel,by decide +kernel⟩
theorem sc_Forest_is_under:FnScope ["self","one","other","place"] ["self","one","other"] (defScope s_Forest_is_under):=⟨rfl,rfl,rfl,by decide +kernel,rfl,by decide +kernel,by decide +kernel⟩
theorem sc_Forest_is_beside:FnScope ["self","one","other","place","behind"] ["self","one","other"] (defScope s_Forest_is_beside):=⟨rfl,rfl,rfl,by decide +kernel,rfl,by decide +kernel,by decide +kernel⟩
theorem sc_Forest_hanging:FnScope ["self","place","end"] ["self","place"] (defScope s_Forest_hanging):=⟨rfl,rfl,rfl,by decide +kernel,rfl,by decide +kernel,by decide +kernel⟩
theorem sc_Table_init:FnScope ["self","lines","spot_marks","line"] ["self","lines"] (defScope s_Table_init):=⟨rfl,rfl,rfl,by decide +kernel,rfl,by decide +kernel,by decide +kernel⟩
theorem sc_Table_is_under:FnScope ["self","one","other","column"] ["self","one","other"] (defScope s_Table_is_under):=⟨rfl,rfl,rfl,by decide +kernel,rfl,by decide +kernel,by decide +kernel⟩
theorem sc_Table_is_beside:FnScope ["self","one","other"] ["self","one","other"] (defScope s_Table_is_beside):=⟨rfl,rfl,rfl,by decide +kernel,rfl,by decide +kernel,by decide +kernel⟩
theorem sc__law_cell_at:FnScope ["_law_script","_law_k"] ["_law_script","_law_k"] (defScope s__law_cell_at):=⟨rfl,rfl,rfl,by decide +kernel,rfl,by decide +kernel,by decide +kernel⟩
theorem sc__law_names:FnScope ["_law_cell","_law_many","_law_letters","_law_size","_law_at","_law_found","_law_rest","_law_k","_law_name","_law_more","_law_j","_law_place"] ["_law_cell","_law_many"] (defScope s__law_names):=⟨rfl,rfl,rfl,by decide +kernel,rfl,by decide +kernel,by decide +kernel⟩
theorem sc__law_data:FnScope ["_law_script","_law_begin","_law_kind","_law_many","_law_names_here","_law_cells","_law_nodes","_law_deep","_law_cell","_law_wide","_law_lines","_law_k"] ["_law_script","_law_begin","_law_kind","_law_many","_law_names_here"] (defScope s__law_data):=⟨rfl,rfl,rfl,by decide +kernel,rfl,by decide +kernel,by decide +kernel⟩
theorem sc__law_thing:FnScope ["_law_kind","_law_data_here"] ["_law_kind","_law_data_here"] (defScope s__law_thing):=⟨rfl,rfl,rfl,by decide +kernel,rfl,by decide +kernel,by decide +kernel⟩
theorem sc__law_spots:FnScope ["_law_kind","_law_data_here","_law_found","_law_line"] ["_law_kind","_law_data_here"] (defScope s__law_spots):=⟨rfl,rfl,rfl,by decide +kernel,rfl,by decide +kernel,by decide +kernel⟩
theorem sc__law_next_deep:FnScope ["_law_data_here","_law_i","_law_k"] ["_law_data_here","_law_i"] (defScope s__law_next_deep):=⟨rfl,rfl,rfl,by decide +kernel,rfl,by decide +kernel,by decide +kernel⟩
theorem sc__law_pairs:FnScope ["_law_kind","_law_data_here","_law_word","_law_spots_here","_law_found","_law_i","_law_j","_law_there"] ["_law_kind","_law_data_here","_law_word"] (defScope s__law_pairs):=⟨rfl,rfl,rfl,by decide +kernel,rfl,by decide +kernel,by decide +kernel⟩
theorem sc__law_holds:FnScope ["_law_kind","_law_data_here","_law_term_here"] ["_law_kind","_law_data_here","_law_term_here"] (defScope s__law_holds):=⟨rfl,rfl,rfl,by decide +kernel,rfl,by decide +kernel,by decide +kernel⟩
theorem sc__law_leaf:FnScope ["_law_cell","_law_names_here","_law_one","_law_other","_law_word"] ["_law_cell","_law_names_here"] (defScope s__law_leaf):=⟨rfl,rfl,rfl,by decide +kernel,rfl,by decide +kernel,by decide +kernel⟩
theorem sc__law_term:FnScope ["_law_script","_law_begin","_law_many","_law_names_here","_law_stack","_law_k","_law_cell","_law_way","_law_size"] ["_law_script","_law_begin","_law_many","_law_names_here"] (defScope s__law_term):=⟨rfl,rfl,rfl,by decide +kernel,rfl,by decide +kernel,by decide +kernel⟩
theorem sc__law_fault:FnScope ["_law_term_here"] ["_law_term_here"] (defScope s__law_fault):=⟨rfl,rfl,rfl,by decide +kernel,rfl,by decide +kernel,by decide +kernel⟩
theorem sc__law_whole_term:FnScope ["_law_kind","_law_data_here","_law_term_here","_law_found"] ["_law_kind","_law_data_here","_law_term_here"] (defScope s__law_whole_term):=⟨rfl,rfl,rfl,by decide +kernel,rfl,by decide +kernel,by decide +kernel⟩
theorem sc_law:FnScope ["_law_script","_law_seed","_law_names_here","_law_kind","_law_data_here","_law_term_here"] ["_law_script"] (defScope s_law):=⟨rfl,rfl,rfl,by decide +kernel,rfl,by decide +kernel,by decide +kernel⟩
structure Adr where
  Fault:Addr
  Has:Addr
  Many:Addr
  Pair:Addr
  Before:Addr
  Under:Addr
  Beside:Addr
  Joint:Addr
  All:Addr
  Any:Addr
  Not:Addr
  ShrinkError:Addr
  NoThing:Addr
  Thing:Addr
  Row:Addr
  Forest:Addr
  Table:Addr
structure Txt (K:PySem.W.Frag) (mg:Str → Option Value) (ad:Adr):Prop where
  all:mg "all" = none
  any:mg "any" = none
  bool:mg "bool" = none
  enumerate:mg "enumerate" = none
  int:mg "int" = none
  isinstance:mg "isinstance" = none
  len:mg "len" = none
  list:mg "list" = none
  min:mg "min" = none
  range:mg "range" = none
  str:mg "str" = none
  tuple:mg "tuple" = none
  zip:mg "zip" = none
  c_Fault:mg "Fault" = some (.ref ad.Fault)
  c_Has:mg "Has" = some (.ref ad.Has)
  c_Many:mg "Many" = some (.ref ad.Many)
  c_Pair:mg "Pair" = some (.ref ad.Pair)
  c_Before:mg "Before" = some (.ref ad.Before)
  c_Under:mg "Under" = some (.ref ad.Under)
  c_Beside:mg "Beside" = some (.ref ad.Beside)
  c_Joint:mg "Joint" = some (.ref ad.Joint)
  c_All:mg "All" = some (.ref ad.All)
  c_Any:mg "Any" = some (.ref ad.Any)
  c_Not:mg "Not" = some (.ref ad.Not)
  c_ShrinkError:mg "ShrinkError" = some (.ref ad.ShrinkError)
  c_NoThing:mg "NoThing" = some (.ref ad.NoThing)
  c_Thing:mg "Thing" = some (.ref ad.Thing)
  c_Row:mg "Row" = some (.ref ad.Row)
  c_Forest:mg "Forest" = some (.ref ad.Forest)
  c_Table:mg "Table" = some (.ref ad.Table)
  g_LETTERS:∃ t,mg "LETTERS" = some (.str LET t)
  g_LONGEST_MARK:∃ t,mg "LONGEST_MARK" = some (.int 8 t)
  g_MOST_IN_ROW:∃ t,mg "MOST_IN_ROW" = some (.int 40 t)
  g_MOST_NODES:∃ t,mg "MOST_NODES" = some (.int 40 t)
  g_DEEPEST:∃ t,mg "DEEPEST" = some (.int 12 t)
  g_MOST_LINES:∃ t,mg "MOST_LINES" = some (.int 12 t)
  g_MOST_COLUMNS:∃ t,mg "MOST_COLUMNS" = some (.int 12 t)
  e_NoThing:ExcCls K mg "NoThing" ad.NoThing
  lk_NoThing:ExcLk K ad.NoThing
  cl_All:Cls K ad.All
  na_All_parts:NoAttr K ad.All "parts"
  ha_All:PySem.W.findIn K (.ref ad.All) "__class__" = some (some (.builtin "object.__class__"))
  hm_All:PySem.W.mroIn K ad.All (.type "object") = some true
  cl_Any:Cls K ad.Any
  na_Any_parts:NoAttr K ad.Any "parts"
  ha_Any:PySem.W.findIn K (.ref ad.Any) "__class__" = some (some (.builtin "object.__class__"))
  hm_Any:PySem.W.mroIn K ad.Any (.type "object") = some true
  cl_Before:Cls K ad.Before
  na_Before_one:NoAttr K ad.Before "one"
  na_Before_other:NoAttr K ad.Before "other"
  ha_Before:PySem.W.findIn K (.ref ad.Before) "__class__" = some (some (.builtin "object.__class__"))
  hm_Before:PySem.W.mroIn K ad.Before (.type "object") = some true
  cl_Beside:Cls K ad.Beside
  na_Beside_one:NoAttr K ad.Beside "one"
  na_Beside_other:NoAttr K ad.Beside "other"
  ha_Beside:PySem.W.findIn K (.ref ad.Beside) "__class__" = some (some (.builtin "object.__class__"))
  hm_Beside:PySem.W.mroIn K ad.Beside (.type "object") = some true
  cl_Forest:Cls K ad.Forest
  na_Forest_nodes:NoAttr K ad.Forest "nodes"
  na_Forest_spot_marks:NoAttr K ad.Forest "spot_marks"
  ha_Forest:PySem.W.findIn K (.ref ad.Forest) "__class__" = some (some (.builtin "object.__class__"))
  hm_Forest:PySem.W.mroIn K ad.Forest (.type "object") = some true
  cl_Has:Cls K ad.Has
  na_Has_mark:NoAttr K ad.Has "mark"
  ha_Has:PySem.W.findIn K (.ref ad.Has) "__class__" = some (some (.builtin "object.__class__"))
  hm_Has:PySem.W.mroIn K ad.Has (.type "object") = some true
  cl_Many:Cls K ad.Many
  na_Many_mark:NoAttr K ad.Many "mark"
  na_Many_number:NoAttr K ad.Many "number"
  ha_Many:PySem.W.findIn K (.ref ad.Many) "__class__" = some (some (.builtin "object.__class__"))
  hm_Many:PySem.W.mroIn K ad.Many (.type "object") = some true
  cl_Not:Cls K ad.Not
  na_Not_part:NoAttr K ad.Not "part"
  ha_Not:PySem.W.findIn K (.ref ad.Not) "__class__" = some (some (.builtin "object.__class__"))
  hm_Not:PySem.W.mroIn K ad.Not (.type "object") = some true
  cl_Row:Cls K ad.Row
  na_Row_spot_marks:NoAttr K ad.Row "spot_marks"
  ha_Row:PySem.W.findIn K (.ref ad.Row) "__class__" = some (some (.builtin "object.__class__"))
  hm_Row:PySem.W.mroIn K ad.Row (.type "object") = some true
  cl_Table:Cls K ad.Table
  na_Table_columns:NoAttr K ad.Table "columns"
  na_Table_lines:NoAttr K ad.Table "lines"
  na_Table_spot_marks:NoAttr K ad.Table "spot_marks"
  ha_Table:PySem.W.findIn K (.ref ad.Table) "__class__" = some (some (.builtin "object.__class__"))
  hm_Table:PySem.W.mroIn K ad.Table (.type "object") = some true
  cl_Under:Cls K ad.Under
  na_Under_one:NoAttr K ad.Under "one"
  na_Under_other:NoAttr K ad.Under "other"
  ha_Under:PySem.W.findIn K (.ref ad.Under) "__class__" = some (some (.builtin "object.__class__"))
  hm_Under:PySem.W.mroIn K ad.Under (.type "object") = some true
  hn:PySem.W.specialIn K (.builtin "object.__class__") "__get__" = some (some (.builtin "getset_descriptor.__get__"))
  htk:PySem.W.takesIn K (.builtin "object.__class__") = some true
def SameBut (p:Addr) (H H':Hp):Prop:=∀ b o,b ≠ p → H b = some o → H' b = some o
def RowObj (ad:Adr) (H:Hp) (p:Addr) (xs:List V):Prop:=∃ dx t,H p = some (.ins ad.Row dx [("spot_marks",.ref t)]) ∧ TupF H t xs ∧ xs.all markV = true ∧ xs.length ≤ 40
def TabObj (ad:Adr) (H:Hp) (p:Addr) (ls:List (List V)) (w:Nat):Prop:=∃ dx t1 t2 ts,H p = some (.ins ad.Table dx [("spot_marks",.ref t1),("lines",.ref t2),("columns",.int w)]) ∧ TupF H t1 ls.flatten ∧ H t2 = some (.tup ts) ∧ RowsAt .tup H ts ls ∧ w ≤ 12 ∧ ls.length ≤ 12 ∧ ∀ l ∈ ls,lineOk w l
theorem RowObj.same {ad:Adr} {H H':Hp} {p:Addr} {xs:List V} (s:Same H H') (r:RowObj ad H p xs):RowObj ad H' p xs:=by
  obtain ⟨dx,t,h1,h2,h3⟩:=r
  exact ⟨dx,t,s _ _ h1,h2.same s,h3⟩
theorem RowObj.keep {ad:Adr} {H H':Hp} {p:Addr} {xs:List V} (s:∀ b o,(∀ zs,o ≠ HO.lst zs) → H b = some o → H' b = some o) (r:RowObj ad H p xs):RowObj ad H' p xs:=by
  obtain ⟨dx,t,h1,h2,h3⟩:=r
  exact ⟨dx,t,s _ (.ins _ _ _) (fun _ z=>nomatch z) h1,h2.keep s,h3⟩
theorem TabObj.keep {ad:Adr} {H H':Hp} {p:Addr} {ls:List (List V)} {w:Nat} (s:∀ b o,(∀ zs,o ≠ HO.lst zs) → H b = some o → H' b = some o) (r:TabObj ad H p ls w):TabObj ad H' p ls w:=by
  obtain ⟨dx,t1,t2,ts,h1,h2,h3,h4,h5⟩:=r
  exact ⟨dx,t1,t2,ts,s _ (.ins _ _ _) (fun _ z=>nomatch z) h1,h2.keep s,s _ (.tup _) (fun _ z=>nomatch z) h3,h4.keep (f:=.tup) fun b ys e=>s b (.tup ys) (fun _ z=>nomatch z) e,h5⟩
theorem TabObj.same {ad:Adr} {H H':Hp} {p:Addr} {ls:List (List V)} {w:Nat} (s:Same H H') (r:TabObj ad H p ls w):TabObj ad H' p ls w:=by
  obtain ⟨dx,t1,t2,ts,h1,h2,h3,h4,h5⟩:=r
  exact ⟨dx,t1,t2,ts,s _ _ h1,h2.same s,s _ _ h3,h4.same s,h5⟩
def sp_Thing_init (ad:Adr):Sp:=fun vs H Q _=>∃ p dx a xs c,vs = [.ref p,.ref a] ∧ (c = ad.Row ∨ c = ad.Table ∨ c = ad.Forest) ∧ H p = some (.ins c dx []) ∧ H a = some (.lst xs) ∧ ∀ t (o:Obj),H t = none → o.cls = .type "tuple" → o.dict = none → Q .non (upd (upd H t (.frz o (.tup xs))) p (.ins c dx [("spot_marks",.ref t)]))
def ForestAt (ad:Adr) (H:Hp) (p:Addr) (ns:List Nd):Prop:=∃ dx t1 t2 xs,H p = some (.ins ad.Forest dx [("spot_marks",.ref t1),("nodes",.ref t2)]) ∧ TupF H t1 (ns.map fun n=>V.str n.1) ∧ H t2 = some (.tup xs) ∧ NodesAt H xs ns
theorem ForestAt.same {ad:Adr} {H H':Hp} {p:Addr} {ns:List Nd} (s:Same H H') (r:ForestAt ad H p ns):ForestAt ad H' p ns:=by
  obtain ⟨dx,t1,t2,xs,h1,h2,h3,h4⟩:=r
  exact ⟨dx,t1,t2,xs,s _ _ h1,h2.same s,s _ _ h3,h4.same s⟩
def sp_Forest_init (ad:Adr):Sp:=fun vs H Q E=>∃ p dx v,vs = [.ref p,v] ∧ H p = some (.ins ad.Forest dx []) ∧ Thg4 H v ∧
  (∀ a xs ns,v = .ref a → H a = some (.lst xs) → xs.length ≤ 40 → NodesAt H xs ns → depthOk 0 ns → ∀ H',ForestAt ad H' p ns → SameBut p H H' → Q .non H') ∧ (¬ GoodN H v → ∀ H',SameBut p H H' → E (.ref ad.NoThing) none H')
def sp_is_whole:Sp:=fun vs H Q _=>∃ v,vs = [v] ∧ Thg H v ∧ Q (.bl (wholeV v)) H
def sp_is_mark:Sp:=fun vs H Q _=>∃ v,vs = [v] ∧ Thg H v ∧ ∀ H',Same H H' → Q (.bl (markV v)) H'
def sp_check_list (ad:Adr):Sp:=fun vs H Q E=>∃ v n,vs = [v,.int (n:Nat)] ∧ Thg H v ∧ (GoodL n H v → Q .non H) ∧ (¬ GoodL n H v → E (.ref ad.NoThing) none H)
def sp_check_marks (ad:Adr):Sp:=fun vs H Q E=>∃ v n,vs = [v,.int (n:Nat)] ∧ Thg2 H v ∧ (GoodM n H v → ∀ H',Same H H' → Q .non H') ∧ (¬ GoodM n H v → ∀ H',Same H H' → E (.ref ad.NoThing) none H')
def sp_check_node (ad:Adr):Sp:=fun vs H Q E=>∃ v d,vs = [v,.int d] ∧ Thg3 H v ∧ (∀ n,NodeAt H v n → markS n.1 = true → 0 ≤ n.2 → n.2 ≤ d → ∀ H',Same H H' → Q .non H') ∧ ((∀ n,NodeAt H v n → ¬ (markS n.1 = true ∧ 0 ≤ n.2 ∧ n.2 ≤ d)) → ∀ H',Same H H' → E (.ref ad.NoThing) none H')
def sp_check_nodes (ad:Adr):Sp:=fun vs H Q E=>∃ v,vs = [v] ∧ Thg4 H v ∧ (GoodN H v → ∀ H',Same H H' → Q .non H') ∧ (¬ GoodN H v → ∀ H',Same H H' → E (.ref ad.NoThing) none H')
def sp_check_lines (ad:Adr):Sp:=fun vs H Q E=>∃ v,vs = [v] ∧ Thg5 H v ∧ (GoodT H v → ∀ H',Same H H' → Q .non H') ∧ (¬ GoodT H v → ∀ H',Same H H' → E (.ref ad.NoThing) none H')
def sp_marks_at (K:PySem.W.Frag):Sp:=fun vs H Q _=>∃ (t a:Addr) (xs:List V) (ps:List Int),vs = [.ref t,.ref a] ∧ SqT K H t xs ∧ H a = some (.lst (ps.map V.int)) ∧ (∀ p ∈ ps,0 ≤ p ∧ p < xs.length) ∧ ps.length ≤ 900 ∧ ∀ l,H l = none → Q (.ref l) (upd H l (.lst (ps.map fun p=>xs.getD p.toNat .non)))
def sp_Row_init (ad:Adr):Sp:=fun vs H Q E=>∃ p dx v,vs = [.ref p,v] ∧ H p = some (.ins ad.Row dx []) ∧ Thg2 H v ∧
  (∀ a xs,v = .ref a → H a = some (.lst xs) → xs.length ≤ 40 → xs.all markV = true → ∀ H',RowObj ad H' p xs → SameBut p H H' → Q .non H') ∧ (¬ GoodM 40 H v → ∀ H',SameBut p H H' → E (.ref ad.NoThing) none H')
def sp_many (ad:Adr):Sp:=fun vs H Q _=>∃ p ns,vs = [.ref p] ∧ ForestAt ad H p ns ∧ Q (.int ns.length) H
def sp_Table_init (ad:Adr):Sp:=fun vs H Q E=>∃ p dx v,vs = [.ref p,v] ∧ H p = some (.ins ad.Table dx []) ∧ Thg5 H v ∧
  (∀ a xs ls,v = .ref a → H a = some (.lst xs) → xs.length ≤ 12 → RowsAt .lst H xs ls → tabOk ls → ∀ H',TabObj ad H' p ls (wideT ls) → SameBut p H H' → Q .non H') ∧ (¬ GoodT H v → ∀ H',SameBut p H H' → E (.ref ad.NoThing) none H')
def sp__law_cell_at (K:PySem.W.Frag):Sp:=fun vs H Q _=>∃ (a:Addr) (ns:List Int) (k:Nat),vs = [.ref a,.int k] ∧ SqL K H a (ns.map V.int) ∧ ∀ n:Int,Q (.int n) H
inductive Dsc where
  | row (xs:List V)
  | forest (ns:List Nd)
  | table (ls:List (List V)) (w:Nat)
def ThObj (ad:Adr) (H:Hp) (p:Addr):Dsc → Prop
  | .row xs=>RowObj ad H p xs
  | .forest ns=>ForestAt ad H p ns ∧ depthOk 0 ns ∧ ns.length ≤ 40
  | .table ls w=>TabObj ad H p ls w
def manyD:Dsc → Nat
  | .row xs=>xs.length
  | .forest ns=>ns.length
  | .table ls w=>ls.length + w
def leftD:Dsc → List Int → Dsc
  | .row xs,ps=>.row (leftR xs ps)
  | .forest ns,ps=>.forest (leftN ns ps)
  | .table ls _,ps=>.table (leftT ls ps) (colsOf ls.length ps).length
theorem ThObj.same {ad:Adr} {H H':Hp} {p:Addr} {d:Dsc} (s:Same H H') (h:ThObj ad H p d):ThObj ad H' p d:=by
  cases d with
  | row xs=>exact RowObj.same s h
  | forest ns=>exact ⟨h.1.same s,h.2⟩
  | table ls w=>exact TabObj.same s h
theorem ThObj.keep {ad:Adr} {H H':Hp} {p:Addr} {d:Dsc} (s:∀ b o,(∀ zs,o ≠ HO.lst zs) → H b = some o → H' b = some o) (h:ThObj ad H p d):ThObj ad H' p d:=by
  cases d with
  | row xs=>exact RowObj.keep s h
  | forest ns =>
    obtain ⟨⟨dx,t1,t2,xs,h1,h2,h3,h4⟩,h5⟩:=h
    exact ⟨⟨dx,t1,t2,xs,s _ (.ins _ _ _) (fun _ z=>nomatch z) h1,h2.keep s,s _ (.tup _) (fun _ z=>nomatch z) h3,h4.tups fun b ys e=>s b (.tup ys) (fun _ z=>nomatch z) e⟩,h5⟩
  | table ls w=>exact TabObj.keep s h
def DOk:Dsc → Prop
  | .row xs=>xs.all markV = true ∧ xs.length ≤ 40
  | .forest ns=>depthOk 0 ns ∧ ns.length ≤ 40
  | .table ls w=>w ≤ 12 ∧ ls.length ≤ 12 ∧ ∀ l ∈ ls,lineOk w l
theorem ThObj.ok {ad:Adr} {H:Hp} {p:Addr} {d:Dsc} (h:ThObj ad H p d):DOk d:=by
  cases d with
  | row xs=>obtain ⟨_,_,_,_,h3⟩:=h; exact h3
  | forest ns=>exact h.2
  | table ls w=>obtain ⟨_,_,_,_,_,_,_,_,h5⟩:=h; exact h5
theorem DOk.many {d:Dsc} (h:DOk d):manyD d ≤ 40:=by
  cases d with
  | row xs=>exact h.2
  | forest ns=>exact h.2
  | table ls w=>have:=h.1; have:=h.2.1; show ls.length + w ≤ 40; omega
def spotsD:Dsc → List V
  | .row xs=>xs
  | .forest ns=>ns.map fun n=>V.str n.1
  | .table ls _=>ls.flatten
def countD (d:Dsc) (m:Str):Nat:=(spotsD d).countP (isM m)
def standD (d:Dsc) (m:Str):List Int:=match d with
  | .row xs=>idxs (isM m) 0 xs
  | .forest ns=>idxs (isM m) 0 (ns.map fun n=>V.str n.1)
  | .table ls _=>idxs (fun l=>inV (.str m) l) 0 ls
def tailN (ns:List Nd) (k:Nat):Nat:=((ns.drop (k + 1)).takeWhile fun n=>decide ((ns.getD k ("",0)).2 < n.2)).length
def hangN (ns:List Nd) (k:Nat):List Int:=(List.range (tailN ns k + 1)).map fun i:Nat=>(k:Int) + (i:Int)
def hangD (d:Dsc) (k:Nat):List Int:=match d with
  | .forest ns=>hangN ns k
  | _=>[(k:Int)]
theorem tw_lt {α:Type} {P:α → Bool}:∀ {l:List α} {j:Nat},j < (l.takeWhile P).length → ∃ x,l[j]? = some x ∧ P x = true
  | [],j,h=>by simp at h
  | x :: l,j,h=>by
    rw [List.takeWhile_cons] at h
    cases hx:P x with
    | false=>rw [hx] at h; simp at h
    | true =>
      rw [hx] at h
      cases j with
      | zero=>exact ⟨x,rfl,hx⟩
      | succ j=>exact tw_lt (l:=l) (by simpa using h)
theorem tw_stop {α:Type} {P:α → Bool}:∀ {l:List α} {x:α},l[(l.takeWhile P).length]? = some x → P x = false
  | [],x,h=>by simp at h
  | y :: l,x,h=>by
    rw [List.takeWhile_cons] at h
    cases hy:P y with
    | false=>rw [hy] at h; simp at h; rw [← h]; exact hy
    | true=>rw [hy] at h; exact tw_stop (l:=l) (by simpa using h)
theorem tail_lt {ns:List Nd} {k j:Nat} (h:j < tailN ns k):∃ n,ns[k + 1 + j]? = some n ∧ (ns.getD k ("",0)).2 < n.2:=by
  obtain ⟨n,h1,h2⟩:=tw_lt h
  rw [List.getElem?_drop] at h1
  exact ⟨n,h1,of_decide_eq_true h2⟩
theorem tail_stop {ns:List Nd} {k:Nat} {n:Nd} (h:ns[k + 1 + tailN ns k]? = some n):¬ (ns.getD k ("",0)).2 < n.2:=by
  have h1:=tw_stop (l:=ns.drop (k + 1)) (P:=fun n=>decide ((ns.getD k ("",0)).2 < n.2)) (x:=n) (by rw [List.getElem?_drop]; exact h)
  exact of_decide_eq_false h1
theorem tail_le (ns:List Nd) (k:Nat):tailN ns k ≤ ns.length - (k + 1):=by
  unfold tailN
  refine Nat.le_trans (List.takeWhile_sublist _).length_le ?_
  rw [List.length_drop]
  exact Nat.le_refl _
theorem stand_le {d:Dsc} (o:DOk d) (m:Str):(standD d m).length ≤ 40:=by
  cases d with
  | row xs=>have:=idxs_le (isM m) xs 0; have:=o.2; show (idxs (isM m) 0 xs).length ≤ 40; omega
  | forest ns =>
    have h:=idxs_le (isM m) (ns.map fun n=>V.str n.1) 0
    rw [List.length_map] at h
    have:=o.2
    show (idxs (isM m) 0 (ns.map fun n=>V.str n.1)).length ≤ 40
    omega
  | table ls w=>have:=idxs_le (fun l=>inV (.str m) l) ls 0; have:=o.2.1; show (idxs (fun l=>inV (.str m) l) 0 ls).length ≤ 40; omega
theorem hang_le {d:Dsc} (o:DOk d) (k:Nat):(hangD d k).length ≤ 41:=by
  cases d with
  | row xs=>show 1 ≤ 41; decide
  | forest ns =>
    have:=tail_le ns k
    have:=o.2
    show ((List.range (tailN ns k + 1)).map fun i:Nat=>(k:Int) + (i:Int)).length ≤ 41
    rw [List.length_map,List.length_range]
    omega
  | table ls w=>show 1 ≤ 41; decide
theorem flat_marks2 {xs:List V} (h:xs.all markV = true):xs.all flatV = true:=by
  rw [List.all_eq_true] at h ⊢
  intro x hx
  have:=h x hx
  cases x with
  | str z=>rfl
  | _=>exact nomatch (show false = true from this)
theorem mark_str {x:V} (h:markV x = true):∃ z,x = .str z:=by
  cases x with
  | str z=>exact ⟨z,rfl⟩
  | _=>exact nomatch (show false = true from h)
theorem mem_idxs {α:Type} {P:α → Bool}:∀ {xs:List α} {k:Nat} {p:Int},p ∈ idxs P k xs ↔ ∃ n x,p = ((k + n:Nat):Int) ∧ xs[n]? = some x ∧ P x = true
  | [],k,p=>by
    constructor
    · intro h
      exact nomatch (show p ∈ ([]:List Int) from h)
    · rintro ⟨n,x,_,h,_⟩
      simp at h
  | x :: xs,k,p=>by
    show p ∈ (if P x then [(k:Int)] else []) ++ idxs P (k + 1) xs ↔ _
    rw [List.mem_append,mem_idxs (xs:=xs)]
    constructor
    · rintro (h | ⟨n,y,h1,h2,h3⟩)
      · cases hx:P x with
        | false=>rw [hx] at h; simp at h
        | true=>rw [hx] at h; simp at h; exact ⟨0,x,by rw [h,Nat.add_zero],rfl,hx⟩
      · exact ⟨n + 1,y,by rw [h1,show k + 1 + n = k + (n + 1) by omega],h2,h3⟩
    · rintro ⟨n,y,h1,h2,h3⟩
      cases n with
      | zero =>
        have h2':some x = some y:=h2
        cases h2'
        exact .inl (by rw [h3,if_pos rfl,h1,Nat.add_zero]; simp)
      | succ n=>exact .inr ⟨n,y,by rw [h1,show k + 1 + n = k + (n + 1) by omega],h2,h3⟩
theorem any_take_more {α:Type} {f:α → Bool} {xs:List α} {i:Nat} {x:α} (hx:xs[i]? = some x) (h:(xs.take i).any f = false) (hf:f x = false):(xs.take (i + 1)).any f = false:=by
  rw [List.take_add_one,hx,List.any_append,h]
  show (false || (f x || false)) = false
  rw [hf]
  rfl
theorem tYes_in {σ:St} {H:Hp} {A B:Hp → Prop} (h:A H):tYes σ H fun b H3=>if b = true then A H3 else B H3:=by
  show if (true:Bool) = true then A H else B H
  rw [if_pos rfl]
  exact h
theorem isM_str (m z:Str):isM m (.str z) = decide (z = m):=by
  show (z == m) = decide (z = m)
  by_cases h:z = m <;> simp [h]
theorem rdSame {H H':Hp} {a:Addr} {u:HO} (s:Same H H') (h:Rd H a u):Rd H' a u:=h.elim (fun h=>.inl (s _ _ h)) fun ⟨o,h⟩=>.inr ⟨o,s _ _ h⟩
theorem split_it {wi:TI} {σ:St} {H:Hp} {G:It → Hp → Prop} (S:It → Hp → Prop) (h:∀ G':It → Hp → Prop,(∀ J H1,S J H1 → G' J H1) → wi σ H G') (g:∀ J H1,S J H1 → G J H1):wi σ H G:=h _ g
def aheadB (one other:Str):List V → Bool
  | []=>false
  | x :: xs=>(isM one x && xs.any (isM other)) || aheadB one other xs
theorem aheadB_append (one other:Str):∀ xs ys:List V,aheadB one other (xs ++ ys) = (aheadB one other xs || (xs.any (isM one) && ys.any (isM other)) || aheadB one other ys)
  | [],ys=>by simp [aheadB]
  | x :: xs,ys=>by
    show ((isM one x && (xs ++ ys).any (isM other)) || aheadB one other (xs ++ ys)) = (((isM one x && xs.any (isM other)) || aheadB one other xs) || ((x :: xs).any (isM one) && ys.any (isM other)) || aheadB one other ys)
    rw [aheadB_append one other xs ys,List.any_append,List.any_cons]
    cases isM one x <;> cases xs.any (isM other) <;> cases ys.any (isM other) <;> cases aheadB one other xs <;> cases xs.any (isM one) <;> cases aheadB one other ys <;> rfl
def nextB (one other:Str) (xs:List V):Bool:=(xs.zip (xs.drop 1)).any fun p=>isM one p.1 && isM other p.2
def namesN (ns:List Nd):List V:=ns.map fun n=>V.str n.1
theorem namesN_get {ns:List Nd} {n:Nat} (h:n < ns.length):(namesN ns).getD n .non = .str (ns.getD n ("",0)).1:=by
  unfold namesN
  rw [List.getD_eq_getElem?_getD,List.getElem?_map,List.getD_eq_getElem?_getD,List.getElem?_eq_getElem h]
  rfl
theorem hang_mem {ns:List Nd} {k:Nat} {q:Int} (hk:k < ns.length) (h:q ∈ hangN ns k):∃ i:Nat,q = ((k + i:Nat):Int) ∧ i ≤ tailN ns k ∧ k + i < ns.length:=by
  unfold hangN at h
  obtain ⟨i,hi,rfl⟩:=List.mem_map.mp h
  have:=List.mem_range.mp hi
  have:=tail_le ns k
  exact ⟨i,by omega,by omega,by omega⟩
theorem hang_len (ns:List Nd) (k:Nat):(hangN ns k).length = tailN ns k + 1:=by
  unfold hangN
  rw [List.length_map,List.length_range]
theorem hang_last (ns:List Nd) (k:Nat):atI ((hangN ns k).map V.int) (-1) = some (.int ((k:Int) + (tailN ns k:Int))):=by
  unfold hangN
  rw [List.range_succ,List.map_append,List.map_append]
  exact atI_last _ _
theorem eqv_pair (a b:Str) (i j:Int):PyData.eqv (.tuple [.str a,.int i]) (.tuple [.str b,.int j]) = decide (a = b ∧ i = j):=by
  simp only [PyData.eqv,PyData.eqvAll,Bool.and_true]
  by_cases h1:a = b <;> by_cases h2:i = j <;> simp [h1,h2]
theorem shaped_pair {a:Str} (h:PyData.strOk a = true) (i:Int):SeqAt.shaped (.tuple [.str a,.int i]) = true:=by
  unfold SeqAt.shaped
  rw [Bool.and_eq_true]
  refine ⟨by simp only [PyData.canLay0,PyData.canLayAll0,h,Bool.and_self],decide_eq_true ?_⟩
  simp only [PyData.depth,PyData.depthAll]
  omega
def underN (one other:Str) (ns:List Nd):Bool:=(idxs (isM one) 0 (namesN ns)).any fun p=>inV (.str other) (((hangN ns p.toNat).drop 1).map fun q=>(namesN ns).getD q.toNat .non)
def besideN (one other:Str) (ns:List Nd):Bool:=(idxs (isM one) 0 (namesN ns)).any fun p=>decide (p.toNat + tailN ns p.toNat + 1 < ns.length) && decide (ns.getD (p.toNat + tailN ns p.toNat + 1) ("",0) = (other,(ns.getD p.toNat ("",0)).2))
def underT (one other:Str) (ls:List (List V)) (w:Nat):Bool:=(List.range w).any fun c=>aheadB one other (ls.map fun l=>l.getD c .non)
abbrev Spot:=Str × Int × Int
def spotV (s:Spot):List V:=[.str s.1,.int s.2.1,.int s.2.2]
def nmV:V → Str
  | .str z=>z
  | _=>""
def spotsS:Dsc → List Spot
  | .row xs=>xs.zipIdx.map fun p=>(nmV p.1,0,(p.2:Int))
  | .forest ns=>ns.zipIdx.map fun p=>(p.1.1,p.1.2,(p.2:Int))
  | .table ls _=>(ls.zipIdx.map fun p=>p.1.zipIdx.map fun q=>(nmV q.1,(p.2:Int),(q.2:Int))).flatten
def depS (sp:List Spot) (i:Nat):Int:=(sp.getD i ("",0,0)).2.1
def aboveS (sp:List Spot) (e l:Nat):Bool:=(List.range (l - e)).all fun j=>decide (depS sp e < depS sp (e + 1 + j))
def kindD:Dsc → Str
  | .row _=>"row"
  | .forest _=>"forest"
  | .table _ _=>"table"
def underS (d:Dsc) (e l:Nat):Bool:=match d with
  | .row _=>false
  | .forest ns=>aboveS (spotsS (.forest ns)) e l
  | .table ls w=>decide ((((spotsS (.table ls w)).getD e ("",0,0)).2.2) = ((spotsS (.table ls w)).getD l ("",0,0)).2.2)
def besideS (d:Dsc) (e l:Nat):Bool:=match d with
  | .row xs=>decide (((spotsS (.row xs)).getD l ("",0,0)).2.2 = ((spotsS (.row xs)).getD e ("",0,0)).2.2 + 1)
  | .forest ns=>decide (depS (spotsS (.forest ns)) e = depS (spotsS (.forest ns)) l) && (List.range (l - (e + 1))).all fun j=>decide (depS (spotsS (.forest ns)) e < depS (spotsS (.forest ns)) (e + 1 + j))
  | .table ls w=>decide (depS (spotsS (.table ls w)) e = depS (spotsS (.table ls w)) l) && decide (((spotsS (.table ls w)).getD l ("",0,0)).2.2 = ((spotsS (.table ls w)).getD e ("",0,0)).2.2 + 1)
def pairsN (n:Nat):List (Nat × Nat):=((List.range n).map fun e=>(List.range (n - (e + 1))).map fun j=>(e,e + 1 + j)).flatten
def nameS (sp:List Spot) (a b:Str) (p:Nat × Nat):Bool:=decide ((sp.getD p.1 ("",0,0)).1 = a) && decide ((sp.getD p.2 ("",0,0)).1 = b)
def dueS (f:Nat → Nat → Bool) (sp:List Spot) (a b:Str) (ps:List (Nat × Nat)):Bool:=ps.any fun p=>nameS sp a b p && f p.1 p.2
theorem due_none {f:Nat → Nat → Bool} {sp:List Spot} {a b:Str} {ps:List (Nat × Nat)} (h:ps.any (nameS sp a b) = false):dueS f sp a b ps = false:=by
  unfold dueS
  rw [List.any_eq_false] at h ⊢
  intro p hp
  have:=Bool.eq_false_iff.mpr (h p hp)
  rw [this]
  simp
theorem due_snoc (f:Nat → Nat → Bool) (sp:List Spot) (a b:Str) (ps:List (Nat × Nat)) (p:Nat × Nat):dueS f sp a b (ps ++ [p]) = (dueS f sp a b ps || (nameS sp a b p && f p.1 p.2)):=by
  unfold dueS
  rw [List.any_append,List.any_cons,List.any_nil,Bool.or_false]
def preN (n i:Nat):List (Nat × Nat):=((List.range i).map fun e=>(List.range (n - (e + 1))).map fun j=>(e,e + 1 + j)).flatten
theorem pre_snoc (n i:Nat):preN n (i + 1) = preN n i ++ (List.range (n - (i + 1))).map fun j=>(i,i + 1 + j):=by
  unfold preN
  rw [List.range_succ,List.map_append,List.flatten_append,List.map_cons,List.map_nil,List.flatten_cons,List.flatten_nil,List.append_nil]
theorem pre_le (n:Nat):∀ i,(preN n i).length ≤ i * n
  | 0=>by simp [preN]
  | i + 1=>by
    have:=pre_le n i
    rw [pre_snoc,List.length_append,List.length_map,List.length_range,Nat.add_mul,Nat.one_mul]
    omega
theorem spots_get {H:Hp} {ts:List V} {sp:List Spot} (h:RowsAt HO.tup H ts (sp.map spotV)) {i:Nat} (hi:i < sp.length):∃ t,atI ts (i:Int) = some (.ref t) ∧ H t = some (.tup [.str (sp.getD i ("",0,0)).1,.int (depS sp i),.int (sp.getD i ("",0,0)).2.2]):=by
  have hl:=h.length
  rw [List.length_map] at hl
  obtain ⟨li,el,t,ex,ht⟩:=h.get (List.getElem?_eq_getElem (by omega:i < ts.length))
  rw [List.getElem?_map,List.getElem?_eq_getElem hi] at el
  have el':spotV sp[i] = li:=Option.some.inj el
  have eD:sp.getD i ("",0,0) = sp[i]:=by rw [List.getD_eq_getElem?_getD,List.getElem?_eq_getElem hi]; rfl
  refine ⟨t,by rw [← ex]; exact atI_nat (List.getElem?_eq_getElem (by omega)),?_⟩
  unfold depS
  rw [eD,ht,← el']
  rfl
theorem above_iff {sp:List Spot} {e n:Nat}:aboveS sp e n = true ↔ ∀ j,e < j → j ≤ n → depS sp e < depS sp j:=by
  unfold aboveS
  rw [List.all_eq_true]
  constructor
  · intro h j h1 h2
    have:=of_decide_eq_true (h (j - (e + 1)) (List.mem_range.mpr (by omega)))
    rwa [show e + 1 + (j - (e + 1)) = j by omega] at this
  · intro h j hj
    have:=List.mem_range.mp hj
    exact decide_eq_true (h _ (by omega) (by omega))
theorem decide_int (a b:Int):decide (V.int a = V.int b) = decide (a = b):=by by_cases h:a = b <;> simp [h]
theorem besT (ls:List (List V)) (w e l:Nat):besideS (.table ls w) e l = (decide (depS (spotsS (.table ls w)) e = depS (spotsS (.table ls w)) l) && decide (((spotsS (.table ls w)).getD l ("",0,0)).2.2 = ((spotsS (.table ls w)).getD e ("",0,0)).2.2 + 1)):=rfl
theorem rows_snoc {H:Hp} {ys:List V} {rows:List (List V)} {T:Addr} {r:List V} (h:RowsAt HO.tup H ys rows) (hT:H T = none):RowsAt HO.tup (upd H T (.tup r)) (ys ++ [.ref T]) (rows ++ [r]) :=
  RowsAt.append (h.same (Same.put hT)) ⟨⟨T,rfl,upd_same⟩,trivial⟩
theorem spots_row {xs:List V} {w:V} {i:Nat} (h:xs[i]? = some w):(spotsS (.row xs))[i]? = some (nmV w,0,(i:Int)):=by
  show (xs.zipIdx.map fun p=>((nmV p.1,0,(p.2:Int)):Spot))[i]? = _
  rw [List.getElem?_map,List.getElem?_zipIdx,h]
  simp
theorem spots_for {ns:List Nd} {n:Nd} {i:Nat} (h:ns[i]? = some n):(spotsS (.forest ns))[i]? = some (n.1,n.2,(i:Int)):=by
  show (ns.zipIdx.map fun p=>((p.1.1,p.1.2,(p.2:Int)):Spot))[i]? = _
  rw [List.getElem?_map,List.getElem?_zipIdx,h]
  simp
theorem spots_row_len (xs:List V):(spotsS (.row xs)).length = xs.length:=by
  show (xs.zipIdx.map fun p=>((nmV p.1,0,(p.2:Int)):Spot)).length = _
  rw [List.length_map,List.length_zipIdx]
theorem spots_for_len (ns:List Nd):(spotsS (.forest ns)).length = ns.length:=by
  show (ns.zipIdx.map fun p=>((p.1.1,p.1.2,(p.2:Int)):Spot)).length = _
  rw [List.length_map,List.length_zipIdx]
theorem take_snoc {sp:List Spot} {i:Nat} {x:Spot} (h:sp[i]? = some x):(sp.take (i + 1)).map spotV = (sp.take i).map spotV ++ [spotV x]:=by
  rw [List.take_add_one,h,List.map_append]
  rfl
def lineS (i:Nat) (l:List V):List Spot:=l.zipIdx.map fun q=>(nmV q.1,(i:Int),(q.2:Int))
theorem spots_tab_snoc {ls:List (List V)} {w i:Nat} {l:List V} (h:ls[i]? = some l):spotsS (.table (ls.take (i + 1)) w) = spotsS (.table (ls.take i) w) ++ lineS i l:=by
  have hi:=(List.getElem?_eq_some_iff.mp h).1
  show ((ls.take (i + 1)).zipIdx.map fun p=>p.1.zipIdx.map fun q=>((nmV q.1,(p.2:Int),(q.2:Int)):Spot)).flatten = ((ls.take i).zipIdx.map fun p=>p.1.zipIdx.map fun q=>((nmV q.1,(p.2:Int),(q.2:Int)):Spot)).flatten ++ lineS i l
  rw [List.take_add_one,h,List.zipIdx_append,List.map_append,List.flatten_append,List.length_take,Nat.min_eq_left (by omega)]
  simp [lineS]
theorem line_snoc {l:List V} {i j:Nat} {x:V} (h:l[j]? = some x):lineS i (l.take (j + 1)) = lineS i (l.take j) ++ [(nmV x,(i:Int),(j:Int))]:=by
  have hj:=(List.getElem?_eq_some_iff.mp h).1
  unfold lineS
  rw [List.take_add_one,h,List.zipIdx_append,List.map_append,List.length_take,Nat.min_eq_left (by omega)]
  simp
theorem spots_tab_len0:∀ (ls:List (List V)) (k:Nat),((ls.zipIdx k).map fun p=>p.1.zipIdx.map fun q=>((nmV q.1,(p.2:Int),(q.2:Int)):Spot)).flatten.length = ls.flatten.length
  | [],_=>rfl
  | l :: ls,k=>by
    rw [List.zipIdx_cons,List.map_cons,List.flatten_cons,List.length_append,spots_tab_len0 ls (k + 1),List.length_map,List.length_zipIdx,List.flatten_cons,List.length_append]
theorem spots_tab_len (ls:List (List V)) (w:Nat):(spotsS (.table ls w)).length = ls.flatten.length:=spots_tab_len0 ls 0
theorem flat_le {w:Nat}:∀ {ls:List (List V)},(∀ l ∈ ls,lineOk w l) → ls.flatten.length = ls.length * w
  | [],_=>by simp
  | l :: ls,h=>by
    rw [List.flatten_cons,List.length_append,flat_le fun m hm=>h m (List.mem_cons_of_mem _ hm),(h l List.mem_cons_self).1,List.length_cons,Nat.add_mul,Nat.one_mul,Nat.add_comm]
theorem spots_le {d:Dsc} (o:DOk d):(spotsS d).length ≤ 144:=by
  cases d with
  | row xs=>rw [spots_row_len]; have:=o.2; omega
  | forest ns=>rw [spots_for_len]; have:=o.2; omega
  | table ls w =>
    rw [spots_tab_len,flat_le o.2.2]
    exact Nat.mul_le_mul o.2.1 o.1
theorem line_len (i:Nat) (l:List V):(lineS i l).length = l.length:=by
  unfold lineS
  rw [List.length_map,List.length_zipIdx]
theorem ne_of_none2 {H:Hp} {a p:Addr} {o:HO} (h:H a = some o) (hp:H p = none):p ≠ a:=fun q=>by rw [q,h] at hp; cases hp
inductive Tm where
  | has (m:Str)
  | many (k:Int) (m:Str)
  | pair (w a b:Str)
  | joint (b:Bool) (ps:List Tm)
  | not (p:Tm)
def wJ (b:Bool):Str:=if b then "all" else "any"
mutual
def dpT:Tm → Nat
  | .has _=>0
  | .many _ _=>0
  | .pair _ _ _=>0
  | .joint _ ps=>dpL ps + 1
  | .not p=>dpT p + 1
def dpL:List Tm → Nat
  | []=>0
  | p :: ps=>max (dpT p) (dpL ps)
end
def pairW (w:Str):Prop:=w = "before" ∨ w = "under" ∨ w = "beside"
mutual
def okT:Tm → Prop
  | .has m=>markS m = true
  | .many _ m=>markS m = true
  | .pair w a b=>pairW w ∧ markS a = true ∧ markS b = true
  | .joint _ ps=>ps.length ≤ 10 ∧ okL ps
  | .not p=>okT p
def okL:List Tm → Prop
  | []=>True
  | p :: ps=>okT p ∧ okL ps
end
mutual
def TmAt (H:Hp):V → Tm → Prop
  | v,.has m=>∃ a,v = .ref a ∧ H a = some (.tup [.str "has",.str m])
  | v,.many k m=>∃ a,v = .ref a ∧ H a = some (.tup [.str "many",.int k,.str m])
  | v,.pair w x y=>∃ a,v = .ref a ∧ H a = some (.tup [.str w,.str x,.str y])
  | v,.joint b ps=>∃ a xs,v = .ref a ∧ H a = some (.tup (.str (wJ b) :: xs)) ∧ TmsAt H xs ps
  | v,.not p=>∃ a x,v = .ref a ∧ H a = some (.tup [.str "not",x]) ∧ TmAt H x p
def TmsAt (H:Hp):List V → List Tm → Prop
  | [],[]=>True
  | x :: xs,p :: ps=>TmAt H x p ∧ TmsAt H xs ps
  | [],_ :: _=>False
  | _ :: _,[]=>False
end
def clsP (ad:Adr) (w:Str):Addr:=if w = "before" then ad.Before else if w = "under" then ad.Under else ad.Beside
def clsJ (ad:Adr) (b:Bool):Addr:=if b then ad.All else ad.Any
mutual
def FtAt (ad:Adr) (H:Hp):V → Tm → Prop
  | v,.has m=>∃ a dx,v = .ref a ∧ H a = some (.ins ad.Has dx [("mark",.str m)])
  | v,.many k m=>∃ a dx,v = .ref a ∧ H a = some (.ins ad.Many dx [("number",.int k),("mark",.str m)])
  | v,.pair w x y=>∃ a dx,v = .ref a ∧ H a = some (.ins (clsP ad w) dx [("one",.str x),("other",.str y)])
  | v,.joint b ps=>∃ a dx t xs,v = .ref a ∧ H a = some (.ins (clsJ ad b) dx [("parts",.ref t)]) ∧ H t = some (.tup xs) ∧ FtsAt ad H xs ps
  | v,.not p=>∃ a dx x,v = .ref a ∧ H a = some (.ins ad.Not dx [("part",x)]) ∧ FtAt ad H x p
def FtsAt (ad:Adr) (H:Hp):List V → List Tm → Prop
  | [],[]=>True
  | x :: xs,p :: ps=>FtAt ad H x p ∧ FtsAt ad H xs ps
  | [],_ :: _=>False
  | _ :: _,[]=>False
end
mutual
theorem TmAt.tups {H H':Hp} (s:∀ b ys,H b = some (.tup ys) → H' b = some (.tup ys)):∀ {v:V} {tm:Tm},TmAt H v tm → TmAt H' v tm
  | _,.has _,h=>by unfold TmAt at h ⊢; obtain ⟨a,e,h⟩:=h; exact ⟨a,e,s _ _ h⟩
  | _,.many _ _,h=>by unfold TmAt at h ⊢; obtain ⟨a,e,h⟩:=h; exact ⟨a,e,s _ _ h⟩
  | _,.pair _ _ _,h=>by unfold TmAt at h ⊢; obtain ⟨a,e,h⟩:=h; exact ⟨a,e,s _ _ h⟩
  | _,.joint _ _,h=>by unfold TmAt at h ⊢; obtain ⟨a,xs,e,h,r⟩:=h; exact ⟨a,xs,e,s _ _ h,TmsAt.tups s r⟩
  | _,.not _,h=>by unfold TmAt at h ⊢; obtain ⟨a,x,e,h,r⟩:=h; exact ⟨a,x,e,s _ _ h,TmAt.tups s r⟩
theorem TmsAt.tups {H H':Hp} (s:∀ b ys,H b = some (.tup ys) → H' b = some (.tup ys)):∀ {vs:List V} {ps:List Tm},TmsAt H vs ps → TmsAt H' vs ps
  | [],[],_=>by unfold TmsAt; trivial
  | _ :: _,_ :: _,h=>by unfold TmsAt at h ⊢; exact ⟨TmAt.tups s h.1,TmsAt.tups s h.2⟩
  | [],_ :: _,h=>by unfold TmsAt at h; exact h.elim
  | _ :: _,[],h=>by unfold TmsAt at h; exact h.elim
end
theorem TmAt.same {H H':Hp} (s:Same H H') {v:V} {tm:Tm} (h:TmAt H v tm):TmAt H' v tm:=h.tups fun b ys e=>s b _ e
theorem TmsAt.same {H H':Hp} (s:Same H H') {vs:List V} {ps:List Tm} (h:TmsAt H vs ps):TmsAt H' vs ps:=h.tups fun b ys e=>s b _ e
theorem lst_tups {H:Hp} {p:Addr} {xs:List V} {o:HO} (h:H p = some (.lst xs)):∀ b ys,H b = some (.tup ys) → upd H p o b = some (.tup ys):=fun b ys e=>by
  rw [upd_ne fun q=>by rw [q,h] at e; cases e]
  exact e
theorem TmsAt.take {H:Hp}:∀ {vs:List V} {ps:List Tm} (i:Nat),TmsAt H vs ps → TmsAt H (vs.take i) (ps.take i)
  | [],[],i,h=>by rw [List.take_nil,List.take_nil]; exact h
  | x :: xs,p :: ps,0,_=>by show TmsAt H [] []; unfold TmsAt; trivial
  | x :: xs,p :: ps,i + 1,h=>by
    show TmsAt H (x :: xs.take i) (p :: ps.take i)
    unfold TmsAt at h ⊢
    exact ⟨h.1,TmsAt.take i h.2⟩
  | [],_ :: _,_,h=>by unfold TmsAt at h; exact h.elim
  | _ :: _,[],_,h=>by unfold TmsAt at h; exact h.elim
theorem TmsAt.drop {H:Hp}:∀ {vs:List V} {ps:List Tm} (i:Nat),TmsAt H vs ps → TmsAt H (vs.drop i) (ps.drop i)
  | [],[],i,h=>by rw [List.drop_nil,List.drop_nil]; exact h
  | x :: xs,p :: ps,0,h=>h
  | x :: xs,p :: ps,i + 1,h=>by
    show TmsAt H (xs.drop i) (ps.drop i)
    unfold TmsAt at h
    exact TmsAt.drop i h.2
  | [],_ :: _,_,h=>by unfold TmsAt at h; exact h.elim
  | _ :: _,[],_,h=>by unfold TmsAt at h; exact h.elim
mutual
theorem FtAt.same {ad:Adr} {H H':Hp} (s:Same H H'):∀ {v:V} {tm:Tm},FtAt ad H v tm → FtAt ad H' v tm
  | _,.has _,h=>by unfold FtAt at h ⊢; obtain ⟨a,dx,e,h⟩:=h; exact ⟨a,dx,e,s _ _ h⟩
  | _,.many _ _,h=>by unfold FtAt at h ⊢; obtain ⟨a,dx,e,h⟩:=h; exact ⟨a,dx,e,s _ _ h⟩
  | _,.pair _ _ _,h=>by unfold FtAt at h ⊢; obtain ⟨a,dx,e,h⟩:=h; exact ⟨a,dx,e,s _ _ h⟩
  | _,.joint _ _,h=>by unfold FtAt at h ⊢; obtain ⟨a,dx,t,xs,e,h,h2,r⟩:=h; exact ⟨a,dx,t,xs,e,s _ _ h,s _ _ h2,FtsAt.same s r⟩
  | _,.not _,h=>by unfold FtAt at h ⊢; obtain ⟨a,dx,x,e,h,r⟩:=h; exact ⟨a,dx,x,e,s _ _ h,FtAt.same s r⟩
theorem FtsAt.same {ad:Adr} {H H':Hp} (s:Same H H'):∀ {vs:List V} {ps:List Tm},FtsAt ad H vs ps → FtsAt ad H' vs ps
  | [],[],_=>by unfold FtsAt; trivial
  | _ :: _,_ :: _,h=>by unfold FtsAt at h ⊢; exact ⟨FtAt.same s h.1,FtsAt.same s h.2⟩
  | [],_ :: _,h=>by unfold FtsAt at h; exact h.elim
  | _ :: _,[],h=>by unfold FtsAt at h; exact h.elim
end
theorem TmsAt.get {H:Hp}:∀ {vs:List V} {ps:List Tm} {i:Nat} {v:V},TmsAt H vs ps → vs[i]? = some v → ∃ p,ps[i]? = some p ∧ TmAt H v p
  | x :: xs,p :: ps,0,v,h,e=>by unfold TmsAt at h; cases e; exact ⟨p,rfl,h.1⟩
  | x :: xs,p :: ps,i + 1,v,h,e=>by unfold TmsAt at h; exact TmsAt.get (vs:=xs) (ps:=ps) (i:=i) h.2 (show xs[i]? = some v from e)
  | [],_,i,v,h,e=>by simp at e
  | _ :: _,[],i,v,h,e=>by unfold TmsAt at h; exact h.elim
theorem TmsAt.length {H:Hp}:∀ {vs:List V} {ps:List Tm},TmsAt H vs ps → vs.length = ps.length
  | [],[],_=>rfl
  | x :: xs,p :: ps,h=>by unfold TmsAt at h; rw [List.length_cons,List.length_cons,TmsAt.length h.2]
  | [],_ :: _,h=>by unfold TmsAt at h; exact h.elim
  | _ :: _,[],h=>by unfold TmsAt at h; exact h.elim
theorem TmsAt.snoc {H:Hp}:∀ {vs:List V} {ps:List Tm} {v:V} {p:Tm},TmsAt H vs ps → TmAt H v p → TmsAt H (vs ++ [v]) (ps ++ [p])
  | [],[],v,p,_,h=>by show TmsAt H [v] [p]; unfold TmsAt; exact ⟨h,by unfold TmsAt; trivial⟩
  | x :: xs,q :: ps,v,p,h,h2=>by
    show TmsAt H (x :: (xs ++ [v])) (q :: (ps ++ [p]))
    unfold TmsAt at h ⊢
    exact ⟨h.1,TmsAt.snoc h.2 h2⟩
  | [],_ :: _,_,_,h,_=>by unfold TmsAt at h; exact h.elim
  | _ :: _,[],_,_,h,_=>by unfold TmsAt at h; exact h.elim
theorem FtsAt.get {ad:Adr} {H:Hp}:∀ {vs:List V} {ps:List Tm} {i:Nat} {v:V},FtsAt ad H vs ps → vs[i]? = some v → ∃ p,ps[i]? = some p ∧ FtAt ad H v p
  | x :: xs,p :: ps,0,v,h,e=>by unfold FtsAt at h; cases e; exact ⟨p,rfl,h.1⟩
  | x :: xs,p :: ps,i + 1,v,h,e=>by unfold FtsAt at h; exact FtsAt.get (vs:=xs) (ps:=ps) (i:=i) h.2 (show xs[i]? = some v from e)
  | [],_,i,v,h,e=>by simp at e
  | _ :: _,[],i,v,h,e=>by unfold FtsAt at h; exact h.elim
theorem FtsAt.length {ad:Adr} {H:Hp}:∀ {vs:List V} {ps:List Tm},FtsAt ad H vs ps → vs.length = ps.length
  | [],[],_=>rfl
  | x :: xs,p :: ps,h=>by unfold FtsAt at h; rw [List.length_cons,List.length_cons,FtsAt.length h.2]
  | [],_ :: _,h=>by unfold FtsAt at h; exact h.elim
  | _ :: _,[],h=>by unfold FtsAt at h; exact h.elim
theorem FtsAt.snoc {ad:Adr} {H:Hp}:∀ {vs:List V} {ps:List Tm} {v:V} {p:Tm},FtsAt ad H vs ps → FtAt ad H v p → FtsAt ad H (vs ++ [v]) (ps ++ [p])
  | [],[],v,p,_,h=>by show FtsAt ad H [v] [p]; unfold FtsAt; exact ⟨h,by unfold FtsAt; trivial⟩
  | x :: xs,q :: ps,v,p,h,h2=>by
    show FtsAt ad H (x :: (xs ++ [v])) (q :: (ps ++ [p]))
    unfold FtsAt at h ⊢
    exact ⟨h.1,FtsAt.snoc h.2 h2⟩
  | [],_ :: _,_,_,h,_=>by unfold FtsAt at h; exact h.elim
  | _ :: _,[],_,_,h,_=>by unfold FtsAt at h; exact h.elim
theorem dpL_mem:∀ {ps:List Tm} {p:Tm},p ∈ ps → dpT p ≤ dpL ps
  | q :: ps,p,h=>by
    unfold dpL
    rcases List.mem_cons.mp h with rfl | h
    · exact Nat.le_max_left _ _
    · exact Nat.le_trans (dpL_mem h) (Nat.le_max_right _ _)
theorem okL_mem:∀ {ps:List Tm} {p:Tm},okL ps → p ∈ ps → okT p
  | q :: ps,p,o,h=>by
    unfold okL at o
    rcases List.mem_cons.mp h with rfl | h
    · exact o.1
    · exact okL_mem o.2 h
theorem okL_of:∀ {ps:List Tm},(∀ p ∈ ps,okT p) → okL ps
  | [],_=>by unfold okL; trivial
  | q :: ps,h=>by unfold okL; exact ⟨h q List.mem_cons_self,okL_of fun p hp=>h p (List.mem_cons_of_mem _ hp)⟩
theorem okL_iff {ps:List Tm}:okL ps ↔ ∀ p ∈ ps,okT p:=⟨fun o p h=>okL_mem o h,okL_of⟩
theorem dpL_le {n:Nat}:∀ {ps:List Tm},(∀ p ∈ ps,dpT p ≤ n) → dpL ps ≤ n
  | [],_=>by unfold dpL; exact Nat.zero_le _
  | q :: ps,h=>by unfold dpL; exact Nat.max_le.mpr ⟨h q List.mem_cons_self,dpL_le fun p hp=>h p (List.mem_cons_of_mem _ hp)⟩
theorem stack_fold {H:Hp} {vs:List V} {tms:List Tm} {n k:Nat} {b:Bool} {q:Addr} (h:TmsAt H vs tms) (n10:n ≤ 10) (hn:n ≤ vs.length) (ok:okL tms) (dp:dpL tms ≤ k) (hq:H q = some (.tup (.str (wJ b) :: vs.drop (vs.length - n)))) :
    ∃ tms',TmsAt H (vs.take (vs.length - n) ++ [.ref q]) tms' ∧ okL tms' ∧ dpL tms' ≤ k + 1:=by
  have hl:=h.length
  refine ⟨tms.take (vs.length - n) ++ [.joint b (tms.drop (vs.length - n))],(h.take _).snoc (by unfold TmAt; exact ⟨q,_,rfl,hq,h.drop _⟩),okL_of fun p hp=>?_,dpL_le fun p hp=>?_⟩
  · rcases List.mem_append.mp hp with h1 | h1
    · exact okL_mem ok (List.mem_of_mem_take h1)
    · rw [List.mem_singleton.mp h1]
      unfold okT
      exact ⟨by rw [List.length_drop]; omega,okL_of fun p hp=>okL_mem ok (List.mem_of_mem_drop hp)⟩
  · rcases List.mem_append.mp hp with h1 | h1
    · have:=dpL_mem (List.mem_of_mem_take h1)
      omega
    · rw [List.mem_singleton.mp h1]
      unfold dpT
      have:dpL (tms.drop (vs.length - n)) ≤ k:=dpL_le fun p hp=>Nat.le_trans (dpL_mem (List.mem_of_mem_drop hp)) dp
      omega
theorem stack_snoc {H:Hp} {vs:List V} {tms:List Tm} {k:Nat} {v:V} {tm:Tm} (h:TmsAt H vs tms) (ok:okL tms) (dp:dpL tms ≤ k) (ht:TmAt H v tm) (o:okT tm) (d:dpT tm ≤ k) :
    ∃ tms',TmsAt H (vs ++ [v]) tms' ∧ okL tms' ∧ dpL tms' ≤ k:=by
  refine ⟨tms ++ [tm],h.snoc ht,okL_of fun p hp=>?_,dpL_le fun p hp=>?_⟩
  · rcases List.mem_append.mp hp with h1 | h1
    · exact okL_mem ok h1
    · rw [List.mem_singleton.mp h1]; exact o
  · rcases List.mem_append.mp hp with h1 | h1
    · exact Nat.le_trans (dpL_mem h1) dp
    · rw [List.mem_singleton.mp h1]; exact d
theorem stack_take {H:Hp} {vs:List V} {tms:List Tm} {k:Nat} (h:TmsAt H vs tms) (ok:okL tms) (dp:dpL tms ≤ k) (i:Nat):∃ tms',TmsAt H (vs.take i) tms' ∧ okL tms' ∧ dpL tms' ≤ k :=
  ⟨tms.take i,h.take i,okL_of fun p hp=>okL_mem ok (List.mem_of_mem_take hp),dpL_le fun p hp=>Nat.le_trans (dpL_mem (List.mem_of_mem_take hp)) dp⟩
theorem ends_gen {B:TS} {D:Ends} {σ:St} {H:Hp} (h:∀ D0:Ends,D0.nx = D.nx → B D0 σ H):B D σ H:=h D rfl
theorem mkSame {H:Hp} {x dx C:Addr} {fs:List (Str × V)} (hx:H x = none) (hdx:H dx = none) (hne:dx ≠ x):Same H (upd (upd H dx (.own x)) x (.ins C dx fs)):=(Same.put hdx).upd (by rw [upd_ne (Ne.symm hne)]; exact hx)
theorem mkSame2 {H:Hp} {z dx C t:Addr} {fs:List (Str × V)} {o o':HO} (hz:H z = none) (hdx:H dx = none) (hne:dx ≠ z) (ht:(upd (upd H dx (.own z)) z (.ins C dx fs)) t = none):Same H (upd (upd (upd (upd H dx (.own z)) z (.ins C dx fs)) t o) z o'):=fun b ob hb=>by
  have h2:=(mkSame (C:=C) (fs:=fs) hz hdx hne) b ob hb
  rw [upd_ne (ne_of_none hb hz),upd_ne (ne_of_none h2 ht)]
  exact h2
theorem sIx1 (n:Nat):HT.sIx (n + 1) 0 (some 1) = 1:=by
  have:=HT.sIx_nat (n + 1) 0 1
  rw [show (((1:Nat):Int)) = 1 from rfl] at this
  rw [this]
  omega
theorem no_whole {n:Nat} {P:Prop}:¬ (HT.sIx (n + 1) 0 (some 1) = 0 ∧ P):=fun h=>by
  rw [sIx1] at h
  exact absurd h.1 (by decide)
theorem cut_toP {xs:List V} {j:Nat} {i:Int} (hi:i = (j:Int)) (h:j ≤ xs.length):cutV xs none (some i) = xs.take j:=by
  subst hi
  unfold cutV
  rw [HT.sIx_nat,HT.sIx_none,Nat.min_eq_left h,List.drop_zero,Nat.sub_zero]
theorem cut1 (x:V) (xs:List V):cutV (x :: xs) (some 1) none = xs:=cut_from (n:=1) rfl
def kindN:Dsc → Int
  | .row _=>0
  | .forest _=>1
  | .table _ _=>2
def DataAt (H:Hp) (l:Addr):Dsc → Prop
  | .row xs=>H l = some (.lst xs)
  | .forest ns=>∃ ts,H l = some (.lst ts) ∧ NodesAt H ts ns
  | .table ls w=>∃ ys,H l = some (.lst ys) ∧ RowsAt .lst H ys ls ∧ w = wideT ls
theorem DataAt.same {H H':Hp} {l:Addr} {d:Dsc} (s:Same H H') (h:DataAt H l d):DataAt H' l d:=by
  cases d with
  | row xs=>exact s _ _ h
  | forest ns=>obtain ⟨ts,h1,h2⟩:=h; exact ⟨ts,s _ _ h1,h2.same s⟩
  | table ls w=>obtain ⟨ys,h1,h2,h3⟩:=h; exact ⟨ys,s _ _ h1,h2.same s,h3⟩
def relK (d:Dsc) (w:Str) (e l:Nat):Bool:=if w = "before" then true else match d with
  | .row _=>decide (w = "beside") && decide (l = e + 1)
  | .forest ns=>if w = "under" then decide (l < e + tailN ns e + 1) else decide (l = e + tailN ns e + 1) && decide ((ns.getD l ("",0)).2 = (ns.getD e ("",0)).2)
  | .table _ wd=>if w = "under" then decide ((l - e) % wd = 0) else decide (l = e + 1) && decide (0 < l % wd)
def pairsO (d:Dsc) (w:Str) (ps:List (Nat × Nat)):List (List V):=(ps.filter fun p=>relK d w p.1 p.2).map fun p=>[(spotsD d).getD p.1 .non,(spotsD d).getD p.2 .non]
def pairsL (d:Dsc) (w:Str):List (List V):=pairsO d w (pairsN (spotsD d).length)
theorem pairsO_snoc (d:Dsc) (w:Str) (ps:List (Nat × Nat)) (e l:Nat):pairsO d w (ps ++ [(e,l)]) = pairsO d w ps ++ (if relK d w e l = true then [[(spotsD d).getD e .non,(spotsD d).getD l .non]] else []):=by
  unfold pairsO
  rw [List.filter_append,List.map_append]
  congr 1
  rw [List.filter_cons,List.filter_nil]
  show List.map _ (if relK d w e l = true then [(e,l)] else []) = _
  cases h:relK d w e l with
  | true=>rfl
  | false=>rfl
theorem pairsO_len (d:Dsc) (w:Str) (ps:List (Nat × Nat)):(pairsO d w ps).length ≤ ps.length:=by
  unfold pairsO
  rw [List.length_map]
  exact List.length_filter_le _ _
theorem spots144 {d:Dsc} (o:DOk d):(spotsD d).length ≤ 144:=by
  cases d with
  | row xs=>have:=o.2; show xs.length ≤ 144; omega
  | forest ns=>have:=o.2; show (ns.map fun n=>V.str n.1).length ≤ 144; rw [List.length_map]; omega
  | table ls w=>show ls.flatten.length ≤ 144; rw [flat_le o.2.2]; exact Nat.mul_le_mul o.2.1 o.1
theorem tab_ok {w:Nat} {ls:List (List V)} (w12:w ≤ 12) (h:∀ x ∈ ls,lineOk w x) (hl:ls.length ≤ 12):DOk (.table ls (wideT ls)):=by
  cases ls with
  | nil=>exact ⟨Nat.zero_le _,hl,fun _ z=>(nomatch z)⟩
  | cons x r =>
    have e:wideT (x :: r) = w:=(h x List.mem_cons_self).1
    rw [e]
    exact ⟨w12,hl,h⟩
theorem cut_natV {xs:List V} {a s:Nat} {i j:Int} (hi:i = (a:Int)) (hj:j = ((a + s:Nat):Int)) (h:a + s ≤ xs.length):cutV xs (some i) (some j) = (xs.drop a).take s:=by
  subst hi hj
  unfold cutV
  rw [HT.sIx_nat,HT.sIx_nat,Nat.min_eq_left h,Nat.min_eq_left (by omega),Nat.add_sub_cancel_left]
def sp_places_of (K:PySem.W.Frag):Sp:=fun vs H Q _=>∃ (t:Addr) (xs:List V) (m:Str),vs = [.ref t,.str m] ∧ SqT K H t xs ∧ xs.all markV = true ∧ xs.length ≤ 900 ∧ ∀ l H',H l = none → Same H H' → H' l = some (.lst ((idxs (isM m) 0 xs).map V.int)) → Q (.ref l) H'
def sp_Forest_standing (ad:Adr):Sp:=fun vs H Q _=>∃ (p:Addr) (ns:List Nd) (m:Str),vs = [.ref p,.str m] ∧ ThObj ad H p (.forest ns) ∧ ∀ l H',H l = none → Same H H' → H' l = some (.lst ((standD (.forest ns) m).map V.int)) → Q (.ref l) H'
def sp_Forest_hanging (ad:Adr):Sp:=fun vs H Q _=>∃ (p:Addr) (ns:List Nd) (k:Nat),vs = [.ref p,.int k] ∧ ThObj ad H p (.forest ns) ∧ k < ns.length ∧ ∀ l H',H l = none → Same H H' → H' l = some (.lst ((hangN ns k).map V.int)) → Q (.ref l) H'
def sp_stands_ahead (K:PySem.W.Frag):Sp:=fun vs H Q _=>∃ (t:Addr) (xs:List V) (one other:Str),vs = [.ref t,.str one,.str other] ∧ (SqL K H t xs ∨ SqT K H t xs) ∧ xs.all markV = true ∧ Q (.bl (aheadB one other xs)) H
def sp_stands_right_ahead:Sp:=fun vs H Q _=>∃ (t:Addr) (xs:List V) (one other:Str),vs = [.ref t,.str one,.str other] ∧ Rd H t (.tup xs) ∧ xs.all markV = true ∧ xs.length ≤ 900 ∧ ∀ H',Same H H' → Q (.bl (nextB one other xs)) H'
def sp_is_before (ad:Adr):Sp:=fun vs H Q _=>∃ (p:Addr) (d:Dsc) (one other:Str),vs = [.ref p,.str one,.str other] ∧ ThObj ad H p d ∧ Q (.bl (aheadB one other (spotsD d))) H
def sp_Row_is_under:Sp:=fun vs H Q _=>∃ (p a b:V),vs = [p,a,b] ∧ Q (.bl false) H
def sp_Row_is_beside (ad:Adr):Sp:=fun vs H Q _=>∃ (p:Addr) (xs:List V) (one other:Str),vs = [.ref p,.str one,.str other] ∧ RowObj ad H p xs ∧ ∀ H',Same H H' → Q (.bl (nextB one other xs)) H'
def sp_Forest_is_under (ad:Adr):Sp:=fun vs H Q _=>∃ (p:Addr) (ns:List Nd) (one other:Str),vs = [.ref p,.str one,.str other] ∧ ThObj ad H p (.forest ns) ∧ ∀ H',Same H H' → Q (.bl (underN one other ns)) H'
def sp_Forest_is_beside (ad:Adr):Sp:=fun vs H Q _=>∃ (p:Addr) (ns:List Nd) (one other:Str),vs = [.ref p,.str one,.str other] ∧ ThObj ad H p (.forest ns) ∧ PyData.strOk other = true ∧ ∀ H',Same H H' → Q (.bl (besideN one other ns)) H'
def sp_Table_is_under (ad:Adr):Sp:=fun vs H Q _=>∃ (p:Addr) (ls:List (List V)) (w:Nat) (one other:Str),vs = [.ref p,.str one,.str other] ∧ TabObj ad H p ls w ∧ ∀ H',Same H H' → Q (.bl (underT one other ls w)) H'
def sp_Table_is_beside (ad:Adr):Sp:=fun vs H Q _=>∃ (p:Addr) (ls:List (List V)) (w:Nat) (one other:Str),vs = [.ref p,.str one,.str other] ∧ TabObj ad H p ls w ∧ ∀ H',Same H H' → Q (.bl (ls.any (nextB one other))) H'
def sp_many_of (ad:Adr):Sp:=fun vs H Q _=>∃ (p:Addr) (d:Dsc) (m:Str),vs = [.ref p,.str m] ∧ ThObj ad H p d ∧ Q (.int (countD d m:Nat)) H
def sp_Has_init (ad:Adr):Sp:=fun vs H Q _=>∃ (p dx:Addr) (m:Str),vs = [.ref p,.str m] ∧ H p = some (.ins ad.Has dx []) ∧ Q .non (upd H p (.ins ad.Has dx [("mark",.str m)]))
def sp_Many_init (ad:Adr):Sp:=fun vs H Q _=>∃ (p dx:Addr) (k:Int) (m:Str),vs = [.ref p,.int k,.str m] ∧ H p = some (.ins ad.Many dx []) ∧ Q .non (upd H p (.ins ad.Many dx [("number",.int k),("mark",.str m)]))
def sp_Pair_init (ad:Adr):Sp:=fun vs H Q _=>∃ (p dx:Addr) (w a b:Str),vs = [.ref p,.str a,.str b] ∧ H p = some (.ins (clsP ad w) dx []) ∧ Q .non (upd H p (.ins (clsP ad w) dx [("one",.str a),("other",.str b)]))
def sp_Joint_init (K:PySem.W.Frag) (ad:Adr):Sp:=fun vs H Q _=>∃ (p dx l:Addr) (b:Bool) (xs:List V),vs = [.ref p,.ref l] ∧ H p = some (.ins (clsJ ad b) dx []) ∧ SqL K H l xs ∧ ∀ t,H t = none → Q .non (upd (upd H t (.tup xs)) p (.ins (clsJ ad b) dx [("parts",.ref t)]))
def sp_Not_init (ad:Adr):Sp:=fun vs H Q _=>∃ (p dx:Addr) (x:V),vs = [.ref p,x] ∧ H p = some (.ins ad.Not dx []) ∧ Q .non (upd H p (.ins ad.Not dx [("part",x)]))
def sp__law_names:Sp:=fun vs H Q _=>∃ (c:Int) (m:Nat),vs = [.int c,.int m] ∧ m ≤ 11 ∧ ∀ (zs:List Str) (l:Addr) H',zs.length = m → (∀ z ∈ zs,markS z = true) → Same H H' → H' l = some (.lst (zs.map V.str)) → Q (.ref l) H'
def sp__law_data (K:PySem.W.Frag):Sp:=fun vs H Q _=>∃ (a nl:Addr) (ns:List Int) (b m:Nat) (kd:Int) (zs:List Str),vs = [.ref a,.int b,.int kd,.int m,.ref nl] ∧ SqL K H a (ns.map V.int) ∧ m ≤ 12 ∧ 0 ≤ kd ∧ kd < 3 ∧ H nl = some (.lst (zs.map V.str)) ∧ 1 ≤ zs.length ∧ zs.length ≤ 20 ∧ (∀ z ∈ zs,markS z = true) ∧ ∀ l d H',Same H H' → DataAt H' l d → kindN d = kd → DOk d → Q (.ref l) H'
def sp__law_next_deep:Sp:=fun vs H Q _=>∃ (l:Addr) (ns:List Nd) (i:Nat),vs = [.ref l,.int i] ∧ DataAt H l (.forest ns) ∧ i < ns.length ∧ ns.length ≤ 40 ∧ Q (.int ((i + tailN ns i + 1:Nat):Int)) H
def sp__law_leaf:Sp:=fun vs H Q _=>∃ (c:Int) (nl:Addr) (zs:List Str),vs = [.int c,.ref nl] ∧ H nl = some (.lst (zs.map V.str)) ∧ 1 ≤ zs.length ∧ zs.length ≤ 20 ∧ (∀ z ∈ zs,markS z = true) ∧ ∀ v tm H',Same H H' → TmAt H' v tm → okT tm → dpT tm = 0 → Q v H'
def sp__law_term (K:PySem.W.Frag):Sp:=fun vs H Q _=>∃ (a nl:Addr) (ns:List Int) (b m:Nat) (zs:List Str),vs = [.ref a,.int b,.int m,.ref nl] ∧ SqL K H a (ns.map V.int) ∧ 1 ≤ m ∧ m ≤ 7 ∧ H nl = some (.lst (zs.map V.str)) ∧ 1 ≤ zs.length ∧ zs.length ≤ 20 ∧ (∀ z ∈ zs,markS z = true) ∧ ∀ v tm H',Same H H' → TmAt H' v tm → okT tm → dpT tm < 10 → Q v H'
def sp__law_fault (ad:Adr) (n:Nat):Sp:=fun vs H Q _=>∃ (v:V) (tm:Tm),vs = [v] ∧ TmAt H v tm ∧ okT tm ∧ dpT tm < n ∧ ∀ u H',Same H H' → FtAt ad H' u tm → Q u H'
def underD (d:Dsc) (m o:Str):Bool:=match d with
  | .row _=>false
  | .forest ns=>underN m o ns
  | .table ls w=>underT m o ls w
def besideD (d:Dsc) (m o:Str):Bool:=match d with
  | .row xs=>nextB m o xs
  | .forest ns=>besideN m o ns
  | .table ls _=>ls.any (nextB m o)
theorem any_before {ad:Adr} {H:Hp} {p:Addr} {d:Dsc} {m o:Str} {Q:VK} {E:XK} (h:ThObj ad H p d) (k:Q (.bl (aheadB m o (spotsD d))) H) :
    ((∃ x y,H p = some (.ins ad.Row x y) ∧ List.lookup (Str.ofString "is_before") y = none ∧ sp_is_before ad [.ref p,.str m,.str o] H Q E) ∨ ∃ x y,H p = some (.ins ad.Forest x y) ∧ List.lookup (Str.ofString "is_before") y = none ∧ sp_is_before ad [.ref p,.str m,.str o] H Q E) ∨ ∃ x y,H p = some (.ins ad.Table x y) ∧ List.lookup (Str.ofString "is_before") y = none ∧ sp_is_before ad [.ref p,.str m,.str o] H Q E:=by
  cases d with
  | row xs=>obtain ⟨dx,t,h1,_⟩:=id h; exact .inl (.inl ⟨dx,_,h1,rfl,p,_,m,o,rfl,h,k⟩)
  | forest ns=>obtain ⟨⟨dx,t1,t2,xs,h1,_⟩,_⟩:=id h; exact .inl (.inr ⟨dx,_,h1,lookup_no (by decide +kernel) (by decide +kernel),p,_,m,o,rfl,h,k⟩)
  | table ls w=>obtain ⟨dx,t1,t2,ts,h1,_⟩:=id h; exact .inr ⟨dx,_,h1,lookup_no3 (by decide +kernel) (by decide +kernel) (by decide +kernel),p,_,m,o,rfl,h,k⟩
theorem any_under {ad:Adr} {H:Hp} {p:Addr} {d:Dsc} {m o:Str} {Q:VK} {E:XK} (h:ThObj ad H p d) (k:∀ H',Same H H' → Q (.bl (underD d m o)) H') :
    ((∃ x y,H p = some (.ins ad.Row x y) ∧ List.lookup (Str.ofString "is_under") y = none ∧ sp_Row_is_under [.ref p,.str m,.str o] H Q E) ∨ ∃ x y,H p = some (.ins ad.Forest x y) ∧ List.lookup (Str.ofString "is_under") y = none ∧ sp_Forest_is_under ad [.ref p,.str m,.str o] H Q E) ∨ ∃ x y,H p = some (.ins ad.Table x y) ∧ List.lookup (Str.ofString "is_under") y = none ∧ sp_Table_is_under ad [.ref p,.str m,.str o] H Q E:=by
  cases d with
  | row xs=>obtain ⟨dx,t,h1,_⟩:=id h; exact .inl (.inl ⟨dx,_,h1,rfl,_,_,_,rfl,k H (Same.refl _)⟩)
  | forest ns=>obtain ⟨⟨dx,t1,t2,xs,h1,_⟩,_⟩:=id h; exact .inl (.inr ⟨dx,_,h1,lookup_no (by decide +kernel) (by decide +kernel),p,_,m,o,rfl,h,k⟩)
  | table ls w=>obtain ⟨dx,t1,t2,ts,h1,_⟩:=id h; exact .inr ⟨dx,_,h1,lookup_no3 (by decide +kernel) (by decide +kernel) (by decide +kernel),p,_,w,m,o,rfl,h,k⟩
theorem any_beside {ad:Adr} {H:Hp} {p:Addr} {d:Dsc} {m o:Str} {Q:VK} {E:XK} (h:ThObj ad H p d) (ho:PyData.strOk o = true) (k:∀ H',Same H H' → Q (.bl (besideD d m o)) H') :
    ((∃ x y,H p = some (.ins ad.Row x y) ∧ List.lookup (Str.ofString "is_beside") y = none ∧ sp_Row_is_beside ad [.ref p,.str m,.str o] H Q E) ∨ ∃ x y,H p = some (.ins ad.Forest x y) ∧ List.lookup (Str.ofString "is_beside") y = none ∧ sp_Forest_is_beside ad [.ref p,.str m,.str o] H Q E) ∨ ∃ x y,H p = some (.ins ad.Table x y) ∧ List.lookup (Str.ofString "is_beside") y = none ∧ sp_Table_is_beside ad [.ref p,.str m,.str o] H Q E:=by
  cases d with
  | row xs=>obtain ⟨dx,t,h1,_⟩:=id h; exact .inl (.inl ⟨dx,_,h1,rfl,p,_,m,o,rfl,h,k⟩)
  | forest ns=>obtain ⟨⟨dx,t1,t2,xs,h1,_⟩,_⟩:=id h; exact .inl (.inr ⟨dx,_,h1,lookup_no (by decide +kernel) (by decide +kernel),p,_,m,o,rfl,h,ho,k⟩)
  | table ls w=>obtain ⟨dx,t1,t2,ts,h1,_⟩:=id h; exact .inr ⟨dx,_,h1,lookup_no3 (by decide +kernel) (by decide +kernel) (by decide +kernel),p,_,w,m,o,rfl,h,k⟩
theorem pairs_any {n:Nat} {f:Nat × Nat → Bool}:(pairsN n).any f = true ↔ ∃ e l,e < l ∧ l < n ∧ f (e,l) = true:=by
  unfold pairsN
  rw [List.any_eq_true]
  constructor
  · rintro ⟨p,hp,hf⟩
    obtain ⟨q,hq,hpq⟩:=List.mem_flatten.mp hp
    obtain ⟨e,he,rfl⟩:=List.mem_map.mp hq
    obtain ⟨j,hj,rfl⟩:=List.mem_map.mp hpq
    have:=List.mem_range.mp he
    have:=List.mem_range.mp hj
    exact ⟨e,e + 1 + j,by omega,by omega,hf⟩
  · rintro ⟨e,l,h1,h2,hf⟩
    refine ⟨(e,l),List.mem_flatten.mpr ⟨_,List.mem_map.mpr ⟨e,List.mem_range.mpr (by omega),rfl⟩,List.mem_map.mpr ⟨l - (e + 1),List.mem_range.mpr (by omega),?_⟩⟩,hf⟩
    rw [show e + 1 + (l - (e + 1)) = l by omega]
theorem ahead_iff {m o:Str}:∀ {xs:List V},aheadB m o xs = true ↔ ∃ e l,e < l ∧ l < xs.length ∧ isM m (xs.getD e .non) = true ∧ isM o (xs.getD l .non) = true
  | []=>by
    constructor
    · intro h
      exact nomatch (show false = true from h)
    · rintro ⟨e,l,_,h,_⟩
      exact absurd h (Nat.not_lt_zero _)
  | x :: xs=>by
    show ((isM m x && xs.any (isM o)) || aheadB m o xs) = true ↔ _
    rw [Bool.or_eq_true,Bool.and_eq_true,ahead_iff (xs:=xs),List.any_eq_true]
    constructor
    · rintro (⟨h1,y,hy,h2⟩ | ⟨e,l,h1,h2,h3,h4⟩)
      · obtain ⟨i,hi,rfl⟩:=List.mem_iff_getElem.mp hy
        refine ⟨0,i + 1,by omega,by rw [List.length_cons]; omega,h1,?_⟩
        rw [List.getD_eq_getElem?_getD,List.getElem?_cons_succ,List.getElem?_eq_getElem hi]
        exact h2
      · exact ⟨e + 1,l + 1,by omega,by rw [List.length_cons]; omega,h3,h4⟩
    · rintro ⟨e,l,h1,h2,h3,h4⟩
      cases l with
      | zero=>omega
      | succ l =>
        rw [List.length_cons] at h2
        have h4':isM o (xs.getD l .non) = true:=h4
        cases e with
        | zero =>
          refine .inl ⟨h3,xs.getD l .non,?_,h4'⟩
          rw [List.getD_eq_getElem?_getD,List.getElem?_eq_getElem (by omega:l < xs.length)]
          exact List.getElem_mem _
        | succ e=>exact .inr ⟨e,l,by omega,by omega,h3,h4'⟩
theorem isM_nm {m:Str} {x:V} (h:markV x = true):isM m x = decide (nmV x = m):=by
  obtain ⟨z,rfl⟩:=mark_str h
  exact isM_str m z
theorem spots_names0:∀ (ls:List (List V)) (k:Nat),(((ls.zipIdx k).map fun p=>p.1.zipIdx.map fun q=>((nmV q.1,(p.2:Int),(q.2:Int)):Spot)).flatten).map (fun s=>s.1) = ls.flatten.map nmV
  | [],_=>rfl
  | l :: ls,k=>by
    have e:(l.zipIdx.map fun q=>((nmV q.1,(k:Int),(q.2:Int)):Spot)).map (fun s=>s.1) = l.map nmV:=by
      rw [List.map_map]
      show l.zipIdx.map (fun q=>nmV q.1) = _
      rw [show (fun q:V × Nat=>nmV q.1) = nmV ∘ Prod.fst from rfl,← List.map_map,List.zipIdx_map_fst]
    rw [List.zipIdx_cons,List.map_cons,List.flatten_cons,List.map_append,spots_names0 ls (k + 1),List.flatten_cons,List.map_append,e]
theorem spots_names (d:Dsc):(spotsS d).map (fun s=>s.1) = (spotsD d).map nmV:=by
  cases d with
  | row xs =>
    show (xs.zipIdx.map fun p=>((nmV p.1,0,(p.2:Int)):Spot)).map (fun s=>s.1) = _
    rw [List.map_map]
    show xs.zipIdx.map (fun q=>nmV q.1) = _
    rw [show (fun q:V × Nat=>nmV q.1) = nmV ∘ Prod.fst from rfl,← List.map_map,List.zipIdx_map_fst]
    rfl
  | forest ns =>
    show (ns.zipIdx.map fun p=>((p.1.1,p.1.2,(p.2:Int)):Spot)).map (fun s=>s.1) = (ns.map fun n=>V.str n.1).map nmV
    rw [List.map_map,List.map_map]
    show ns.zipIdx.map (fun q=>q.1.1) = ns.map fun n=>n.1
    rw [show (fun q:Nd × Nat=>q.1.1) = (fun n:Nd=>n.1) ∘ Prod.fst from rfl,← List.map_map,List.zipIdx_map_fst]
  | table ls w=>exact spots_names0 ls 0
theorem spots_lenD (d:Dsc):(spotsS d).length = (spotsD d).length:=by
  have:=congrArg List.length (spots_names d)
  rwa [List.length_map,List.length_map] at this
theorem spots_marks {d:Dsc} (o:DOk d):(spotsD d).all markV = true:=by
  cases d with
  | row xs=>exact o.1
  | forest ns =>
    show (ns.map fun n=>V.str n.1).all markV = true
    rw [List.all_map,List.all_eq_true]
    intro n hn
    exact (depthOk_all o.1 n hn).1
  | table ls w=>exact flat_marks fun l hl=>(o.2.2 l hl).2
theorem nm_get {d:Dsc} (o:DOk d) {m:Str} {i:Nat} (h:i < (spotsS d).length):isM m ((spotsD d).getD i .non) = decide (((spotsS d).getD i ("",0,0)).1 = m):=by
  have h':i < (spotsD d).length:=by rw [← spots_lenD]; exact h
  have e:=congrArg (fun l=>l[i]?) (spots_names d)
  simp only [List.getElem?_map,List.getElem?_eq_getElem h,List.getElem?_eq_getElem h',Option.map_some,Option.some.injEq] at e
  rw [List.getD_eq_getElem?_getD,List.getD_eq_getElem?_getD,List.getElem?_eq_getElem h,List.getElem?_eq_getElem h']
  show isM m (spotsD d)[i] = decide ((spotsS d)[i].1 = m)
  rw [isM_nm (List.all_eq_true.mp (spots_marks o) _ (List.getElem_mem h')),e]
theorem dueBefore {d:Dsc} (o:DOk d) (m n:Str):aheadB m n (spotsD d) = (pairsN (spotsS d).length).any (nameS (spotsS d) m n):=by
  rw [Bool.eq_iff_iff,ahead_iff,pairs_any,← spots_lenD]
  constructor
  · rintro ⟨e,l,h1,h2,h3,h4⟩
    refine ⟨e,l,h1,h2,?_⟩
    rw [nm_get o (by omega)] at h3
    rw [nm_get o h2] at h4
    unfold nameS
    rw [h3,h4]
    rfl
  · rintro ⟨e,l,h1,h2,h3⟩
    unfold nameS at h3
    rw [Bool.and_eq_true] at h3
    refine ⟨e,l,h1,h2,?_,?_⟩
    · rw [nm_get o (by omega)]
      exact h3.1
    · rw [nm_get o h2]
      exact h3.2
theorem due_iff {f:Nat → Nat → Bool} {sp:List Spot} {m n:Str}:dueS f sp m n (pairsN sp.length) = true ↔ ∃ e l,e < l ∧ l < sp.length ∧ (sp.getD e ("",0,0)).1 = m ∧ (sp.getD l ("",0,0)).1 = n ∧ f e l = true:=by
  unfold dueS
  rw [pairs_any]
  unfold nameS
  simp only [Bool.and_eq_true,decide_eq_true_eq,and_assoc]
theorem getD_mem {α:Type} {xs:List α} {i:Nat} {a:α} (h:i < xs.length):xs.getD i a ∈ xs:=by
  rw [List.getD_eq_getElem?_getD,List.getElem?_eq_getElem h]
  exact List.getElem_mem h
theorem for_get {ns:List Nd} {i:Nat} (h:i < ns.length):(spotsS (.forest ns)).getD i ("",0,0) = ((ns.getD i ("",0)).1,(ns.getD i ("",0)).2,(i:Int)):=by
  rw [List.getD_eq_getElem?_getD,spots_for (List.getElem?_eq_getElem h),List.getD_eq_getElem?_getD,List.getElem?_eq_getElem h]
  rfl
theorem row_get {xs:List V} {i:Nat} (h:i < xs.length):(spotsS (.row xs)).getD i ("",0,0) = (nmV (xs.getD i .non),0,(i:Int)):=by
  rw [List.getD_eq_getElem?_getD,spots_row (List.getElem?_eq_getElem h),List.getD_eq_getElem?_getD,List.getElem?_eq_getElem h]
  rfl
theorem for_dep {ns:List Nd} {i:Nat} (h:i < ns.length):depS (spotsS (.forest ns)) i = (ns.getD i ("",0)).2:=by
  unfold depS
  rw [for_get h]
theorem tail_iff {ns:List Nd} {e l:Nat} (hl:l < ns.length):l ≤ e + tailN ns e ↔ ∀ j,e < j → j ≤ l → (ns.getD e ("",0)).2 < (ns.getD j ("",0)).2:=by
  constructor
  · intro h j h1 h2
    obtain ⟨n,hn,hd⟩:=tail_lt (ns:=ns) (k:=e) (j:=j - (e + 1)) (by omega)
    rw [show e + 1 + (j - (e + 1)) = j by omega] at hn
    rw [List.getD_eq_getElem?_getD (i:=j),hn]
    exact hd
  · intro h
    rcases Nat.lt_or_ge (e + tailN ns e) l with hlt | hge
    · have hj:e + 1 + tailN ns e < ns.length:=by omega
      have:=tail_stop (List.getElem?_eq_getElem hj)
      have h2:=h (e + 1 + tailN ns e) (by omega) (by omega)
      rw [List.getD_eq_getElem?_getD (i:=e + 1 + tailN ns e),List.getElem?_eq_getElem hj] at h2
      exact absurd h2 this
    · exact hge
theorem mem_names {ns:List Nd} {m:Str} {p:Int}:p ∈ idxs (isM m) 0 (namesN ns) ↔ ∃ n:Nat,p = (n:Int) ∧ n < ns.length ∧ (ns.getD n ("",0)).1 = m:=by
  rw [mem_idxs]
  constructor
  · rintro ⟨n,x,h1,h2,h3⟩
    unfold namesN at h2
    rw [List.getElem?_map] at h2
    obtain ⟨nd,h4,rfl⟩:=Option.map_eq_some_iff.mp h2
    refine ⟨n,by rw [h1,Nat.zero_add],(List.getElem?_eq_some_iff.mp h4).1,?_⟩
    rw [List.getD_eq_getElem?_getD,h4]
    rw [isM_str] at h3
    exact of_decide_eq_true h3
  · rintro ⟨n,h1,h2,h3⟩
    refine ⟨n,.str ns[n].1,by rw [h1,Nat.zero_add],?_,?_⟩
    · unfold namesN
      rw [List.getElem?_map,List.getElem?_eq_getElem h2]
      rfl
    · rw [isM_str]
      rw [List.getD_eq_getElem?_getD,List.getElem?_eq_getElem h2] at h3
      exact decide_eq_true h3
theorem hang_drop {ns:List Nd} {k:Nat} {q:Int}:q ∈ (hangN ns k).drop 1 ↔ ∃ i:Nat,1 ≤ i ∧ i ≤ tailN ns k ∧ q = ((k + i:Nat):Int):=by
  rw [List.mem_iff_getElem?]
  unfold hangN
  constructor
  · rintro ⟨i,h⟩
    rw [List.getElem?_drop,List.getElem?_map] at h
    obtain ⟨j,hj,rfl⟩:=Option.map_eq_some_iff.mp h
    obtain ⟨h1,h2⟩:=List.getElem?_eq_some_iff.mp hj
    rw [List.length_range] at h1
    rw [List.getElem_range] at h2
    exact ⟨j,by omega,by omega,by omega⟩
  · rintro ⟨i,h1,h2,rfl⟩
    refine ⟨i - 1,?_⟩
    rw [List.getElem?_drop,List.getElem?_map,show 1 + (i - 1) = i by omega,List.getElem?_range (by omega)]
    show some ((k:Int) + (i:Int)) = _
    rw [show (k:Int) + (i:Int) = ((k + i:Nat):Int) by omega]
theorem underN_iff {ns:List Nd} {m o:Str}:underN m o ns = true ↔ ∃ e l,e < l ∧ l < ns.length ∧ (ns.getD e ("",0)).1 = m ∧ (ns.getD l ("",0)).1 = o ∧ l ≤ e + tailN ns e:=by
  unfold underN
  rw [List.any_eq_true]
  constructor
  · rintro ⟨p,hp,hi⟩
    obtain ⟨e,rfl,he,hm⟩:=mem_names.mp hp
    rw [Int.toNat_natCast] at hi
    obtain ⟨x,hx,hfx⟩:=List.any_eq_true.mp (show (((hangN ns e).drop 1).map fun q=>(namesN ns).getD q.toNat .non).any (isM o) = true from hi)
    obtain ⟨q,hq,rfl⟩:=List.mem_map.mp hx
    obtain ⟨i,hi1,hi2,rfl⟩:=hang_drop.mp hq
    have:=tail_le ns e
    rw [Int.toNat_natCast,namesN_get (by omega),isM_str] at hfx
    exact ⟨e,e + i,by omega,by omega,hm,of_decide_eq_true hfx,by omega⟩
  · rintro ⟨e,l,h1,h2,h3,h4,h5⟩
    refine ⟨(e:Int),mem_names.mpr ⟨e,rfl,by omega,h3⟩,?_⟩
    rw [Int.toNat_natCast]
    refine (show (((hangN ns e).drop 1).map fun q=>(namesN ns).getD q.toNat .non).any (isM o) = true from List.any_eq_true.mpr ⟨_,List.mem_map.mpr ⟨((e + (l - e):Nat):Int),hang_drop.mpr ⟨l - e,by omega,by omega,rfl⟩,rfl⟩,?_⟩)
    rw [Int.toNat_natCast,show e + (l - e) = l by omega,namesN_get h2,isM_str]
    exact decide_eq_true h4
theorem besideN_iff {ns:List Nd} {m o:Str}:besideN m o ns = true ↔ ∃ e,e + tailN ns e + 1 < ns.length ∧ (ns.getD e ("",0)).1 = m ∧ ns.getD (e + tailN ns e + 1) ("",0) = (o,(ns.getD e ("",0)).2):=by
  unfold besideN
  rw [List.any_eq_true]
  constructor
  · rintro ⟨p,hp,hi⟩
    obtain ⟨e,rfl,he,hm⟩:=mem_names.mp hp
    rw [Int.toNat_natCast,Bool.and_eq_true] at hi
    exact ⟨e,of_decide_eq_true hi.1,hm,of_decide_eq_true hi.2⟩
  · rintro ⟨e,h1,h2,h3⟩
    refine ⟨(e:Int),mem_names.mpr ⟨e,rfl,by omega,h2⟩,?_⟩
    rw [Int.toNat_natCast,decide_eq_true h1,decide_eq_true h3]
    rfl
theorem next_iff {m o:Str} {xs:List V}:nextB m o xs = true ↔ ∃ e,e + 1 < xs.length ∧ isM m (xs.getD e .non) = true ∧ isM o (xs.getD (e + 1) .non) = true:=by
  unfold nextB
  rw [List.any_eq_true]
  constructor
  · rintro ⟨p,hp,hf⟩
    obtain ⟨e,hpe⟩:=List.mem_iff_getElem?.mp hp
    have he:=(List.getElem?_eq_some_iff.mp hpe).1
    rw [List.length_zip,List.length_drop] at he
    obtain ⟨h1,h2⟩:=List.getElem?_zip_eq_some.mp hpe
    rw [List.getElem?_drop] at h2
    rw [Bool.and_eq_true] at hf
    refine ⟨e,by omega,?_,?_⟩
    · rw [List.getD_eq_getElem?_getD,h1]
      exact hf.1
    · rw [List.getD_eq_getElem?_getD,show e + 1 = 1 + e by omega,h2]
      exact hf.2
  · rintro ⟨e,h1,h2,h3⟩
    refine ⟨(xs.getD e .non,xs.getD (e + 1) .non),List.mem_iff_getElem?.mpr ⟨e,List.getElem?_zip_eq_some.mpr ⟨?_,?_⟩⟩,?_⟩
    · show xs[e]? = some (xs.getD e .non)
      rw [List.getD_eq_getElem?_getD,List.getElem?_eq_getElem (by omega:e < xs.length)]
      rfl
    · show (xs.drop 1)[e]? = some (xs.getD (e + 1) .non)
      rw [List.getElem?_drop,show 1 + e = e + 1 by omega,List.getD_eq_getElem?_getD,List.getElem?_eq_getElem h1]
      rfl
    · rw [h2,h3]
      rfl
theorem tab_get0 {w:Nat}:∀ {ls:List (List V)} (k j c:Nat),(∀ l ∈ ls,lineOk w l) → j < ls.length → c < w → (((ls.zipIdx k).map fun p=>p.1.zipIdx.map fun q=>((nmV q.1,(p.2:Int),(q.2:Int)):Spot)).flatten)[j * w + c]? = some (nmV ((ls.getD j []).getD c .non),((k + j:Nat):Int),(c:Int))
  | [],_,j,_,_,h,_=>by simp at h
  | l :: ls,k,j,c,hl,hj,hc=>by
    have l1:=(hl l List.mem_cons_self).1
    rw [List.zipIdx_cons,List.map_cons,List.flatten_cons]
    dsimp only
    cases j with
    | zero =>
      rw [Nat.zero_mul,Nat.zero_add,List.getElem?_append_left (by rw [List.length_map,List.length_zipIdx]; omega),List.getElem?_map,List.getElem?_zipIdx,List.getElem?_eq_getElem (by omega:c < l.length)]
      show some (nmV l[c],(k:Int),((0 + c:Nat):Int)) = some (nmV (l.getD c .non),((k + 0:Nat):Int),(c:Int))
      rw [List.getD_eq_getElem?_getD,List.getElem?_eq_getElem (by omega:c < l.length),Nat.zero_add,Nat.add_zero]
      rfl
    | succ j =>
      have e:(j + 1) * w + c = w + (j * w + c):=by rw [Nat.add_mul,Nat.one_mul]; omega
      rw [List.getElem?_append_right (by rw [List.length_map,List.length_zipIdx,l1,e]; omega),List.length_map,List.length_zipIdx,e,l1,Nat.add_sub_cancel_left,tab_get0 (k + 1) j c (fun m hm=>hl m (List.mem_cons_of_mem _ hm)) (by rw [List.length_cons] at hj; omega) hc]
      show some (_,((k + 1 + j:Nat):Int),_) = some (nmV ((ls.getD j []).getD c .non),((k + (j + 1):Nat):Int),(c:Int))
      rw [show k + 1 + j = k + (j + 1) by omega]
theorem tab_get {w:Nat} {ls:List (List V)} {j c:Nat} (hl:∀ l ∈ ls,lineOk w l) (hj:j < ls.length) (hc:c < w):(spotsS (.table ls w)).getD (j * w + c) ("",0,0) = (nmV ((ls.getD j []).getD c .non),(j:Int),(c:Int)):=by
  have:=tab_get0 0 j c hl hj hc
  rw [Nat.zero_add] at this
  rw [List.getD_eq_getElem?_getD]
  show ((((ls.zipIdx 0).map fun p=>p.1.zipIdx.map fun q=>((nmV q.1,(p.2:Int),(q.2:Int)):Spot)).flatten)[j * w + c]?).getD _ = _
  rw [this]
  rfl
theorem pos_lt {j c n w:Nat} (hj:j < n) (hc:c < w):j * w + c < n * w:=by
  have h:(j + 1) * w ≤ n * w:=Nat.mul_le_mul_right w hj
  rw [Nat.add_mul,Nat.one_mul] at h
  omega
theorem tab_split {ls:List (List V)} {w e:Nat} (hl:∀ l ∈ ls,lineOk w l) (h:e < (spotsS (.table ls w)).length):∃ j c,j < ls.length ∧ c < w ∧ e = j * w + c:=by
  rw [spots_tab_len,flat_le hl] at h
  have hw:0 < w:=by
    rcases Nat.eq_zero_or_pos w with h0 | h0
    · rw [h0,Nat.mul_zero] at h
      exact absurd h (Nat.not_lt_zero _)
    · exact h0
  exact ⟨e / w,e % w,Nat.div_lt_of_lt_mul (by rw [Nat.mul_comm]; exact h),Nat.mod_lt _ hw,(Nat.div_add_mod' e w).symm⟩
theorem tab_mark {ls:List (List V)} {w j c:Nat} (hl:∀ l ∈ ls,lineOk w l) (hj:j < ls.length) (hc:c < w):markV ((ls.getD j []).getD c .non) = true:=by
  have h:=hl _ (getD_mem (a:=[]) hj)
  exact List.all_eq_true.mp h.2 _ (getD_mem (by rw [h.1]; exact hc))
theorem underT_iff {ls:List (List V)} {w:Nat} {m o:Str} (hl:∀ l ∈ ls,lineOk w l):underT m o ls w = true ↔ ∃ c j1 j2,c < w ∧ j1 < j2 ∧ j2 < ls.length ∧ nmV ((ls.getD j1 []).getD c .non) = m ∧ nmV ((ls.getD j2 []).getD c .non) = o:=by
  have gm:∀ {c j:Nat},j < ls.length → (ls.map fun l=>l.getD c .non).getD j .non = (ls.getD j []).getD c .non:=fun {c j} hj=>by
    rw [List.getD_eq_getElem?_getD,List.getElem?_map,List.getD_eq_getElem?_getD (l:=ls),List.getElem?_eq_getElem hj]
    rfl
  unfold underT
  rw [List.any_eq_true]
  constructor
  · rintro ⟨c,hc,h⟩
    have hc':=List.mem_range.mp hc
    obtain ⟨e,l,h1,h2,h3,h4⟩:=ahead_iff.mp h
    rw [List.length_map] at h2
    rw [gm (by omega),isM_nm (tab_mark hl (by omega) hc')] at h3
    rw [gm h2,isM_nm (tab_mark hl h2 hc')] at h4
    exact ⟨c,e,l,hc',h1,h2,of_decide_eq_true h3,of_decide_eq_true h4⟩
  · rintro ⟨c,e,l,hc,h1,h2,h3,h4⟩
    refine ⟨c,List.mem_range.mpr hc,ahead_iff.mpr ⟨e,l,h1,by rw [List.length_map]; exact h2,?_,?_⟩⟩
    · rw [gm (by omega),isM_nm (tab_mark hl (by omega) hc)]
      exact decide_eq_true h3
    · rw [gm h2,isM_nm (tab_mark hl h2 hc)]
      exact decide_eq_true h4
theorem besideT_iff {ls:List (List V)} {w:Nat} {m o:Str} (hl:∀ l ∈ ls,lineOk w l):ls.any (nextB m o) = true ↔ ∃ j c,j < ls.length ∧ c + 1 < w ∧ nmV ((ls.getD j []).getD c .non) = m ∧ nmV ((ls.getD j []).getD (c + 1) .non) = o:=by
  rw [List.any_eq_true]
  constructor
  · rintro ⟨l,hm,h⟩
    obtain ⟨j,hj,rfl⟩:=List.mem_iff_getElem.mp hm
    obtain ⟨c,h1,h2,h3⟩:=next_iff.mp h
    have e:ls.getD j [] = ls[j]:=by rw [List.getD_eq_getElem?_getD,List.getElem?_eq_getElem hj]; rfl
    have hw:=(hl _ hm).1
    rw [← e] at h2 h3
    rw [isM_nm (tab_mark hl hj (by omega))] at h2
    rw [isM_nm (tab_mark hl hj (by omega))] at h3
    exact ⟨j,c,hj,by omega,of_decide_eq_true h2,of_decide_eq_true h3⟩
  · rintro ⟨j,c,hj,hc,h1,h2⟩
    refine ⟨ls.getD j [],getD_mem hj,next_iff.mpr ⟨c,by rw [(hl _ (getD_mem hj)).1]; exact hc,?_,?_⟩⟩
    · rw [isM_nm (tab_mark hl hj (by omega))]
      exact decide_eq_true h1
    · rw [isM_nm (tab_mark hl hj hc)]
      exact decide_eq_true h2
theorem dueUnder {d:Dsc} (o:DOk d) (m n:Str):underD d m n = dueS (underS d) (spotsS d) m n (pairsN (spotsS d).length):=by
  cases d with
  | row xs =>
    rw [Bool.eq_iff_iff,due_iff]
    constructor
    · intro h
      exact nomatch (show false = true from h)
    · rintro ⟨_,_,_,_,_,_,h⟩
      exact nomatch (show false = true from h)
  | forest ns =>
    rw [Bool.eq_iff_iff,due_iff]
    show underN m n ns = true ↔ _
    rw [underN_iff,spots_for_len]
    constructor
    · rintro ⟨e,l,h1,h2,h3,h4,h5⟩
      refine ⟨e,l,h1,h2,by rw [for_get (by omega)]; exact h3,by rw [for_get h2]; exact h4,above_iff.mpr fun j hj1 hj2=>?_⟩
      rw [for_dep (by omega),for_dep (by omega)]
      exact (tail_iff h2).mp h5 j hj1 hj2
    · rintro ⟨e,l,h1,h2,h3,h4,h5⟩
      rw [for_get (by omega)] at h3
      rw [for_get h2] at h4
      refine ⟨e,l,h1,h2,h3,h4,(tail_iff h2).mpr fun j hj1 hj2=>?_⟩
      have:=above_iff.mp h5 j hj1 hj2
      rwa [for_dep (by omega),for_dep (by omega)] at this
  | table ls w =>
    have hl:=o.2.2
    rw [Bool.eq_iff_iff,due_iff]
    show underT m n ls w = true ↔ _
    rw [underT_iff hl]
    have us:∀ e l,underS (.table ls w) e l = decide ((((spotsS (.table ls w)).getD e ("",0,0)).2.2) = ((spotsS (.table ls w)).getD l ("",0,0)).2.2):=fun _ _=>rfl
    constructor
    · rintro ⟨c,j1,j2,hc,h1,h2,h3,h4⟩
      have hlt:j1 * w < j2 * w:=Nat.mul_lt_mul_of_pos_right h1 (by omega)
      refine ⟨j1 * w + c,j2 * w + c,by omega,by rw [spots_tab_len,flat_le hl]; exact pos_lt h2 hc,by rw [tab_get hl (by omega) hc]; exact h3,by rw [tab_get hl h2 hc]; exact h4,?_⟩
      rw [us,tab_get hl (by omega) hc,tab_get hl h2 hc]
      exact decide_eq_true rfl
    · rintro ⟨e,l,h1,h2,h3,h4,h5⟩
      obtain ⟨j1,c1,a1,a2,rfl⟩:=tab_split hl (show e < _ by omega)
      obtain ⟨j2,c2,b1,b2,rfl⟩:=tab_split hl h2
      rw [us,tab_get hl a1 a2,tab_get hl b1 b2] at h5
      rw [tab_get hl a1 a2] at h3
      rw [tab_get hl b1 b2] at h4
      have ec:c1 = c2:=by
        have:(c1:Int) = (c2:Int):=of_decide_eq_true h5
        omega
      subst ec
      refine ⟨c1,j1,j2,a2,?_,b1,h3,h4⟩
      rcases Nat.lt_or_ge j1 j2 with h | h
      · exact h
      · have:=Nat.mul_le_mul_right w h
        omega
theorem dueBeside {d:Dsc} (o:DOk d) (m n:Str):besideD d m n = dueS (besideS d) (spotsS d) m n (pairsN (spotsS d).length):=by
  cases d with
  | row xs =>
    rw [Bool.eq_iff_iff,due_iff]
    show nextB m n xs = true ↔ _
    rw [next_iff,spots_row_len]
    constructor
    · rintro ⟨e,h1,h2,h3⟩
      have hx:=List.all_eq_true.mp o.1
      rw [isM_nm (hx _ (getD_mem (by omega)))] at h2
      rw [isM_nm (hx _ (getD_mem h1))] at h3
      refine ⟨e,e + 1,by omega,h1,by rw [row_get (by omega)]; exact of_decide_eq_true h2,by rw [row_get h1]; exact of_decide_eq_true h3,?_⟩
      show decide (((spotsS (.row xs)).getD (e + 1) ("",0,0)).2.2 = ((spotsS (.row xs)).getD e ("",0,0)).2.2 + 1) = true
      rw [row_get h1,row_get (by omega)]
      exact decide_eq_true (by show ((e + 1:Nat):Int) = (e:Int) + 1; omega)
    · rintro ⟨e,l,h1,h2,h3,h4,h5⟩
      have hx:=List.all_eq_true.mp o.1
      have h5':=of_decide_eq_true (show decide (((spotsS (.row xs)).getD l ("",0,0)).2.2 = ((spotsS (.row xs)).getD e ("",0,0)).2.2 + 1) = true from h5)
      rw [row_get (i:=e) (by omega)] at h3
      rw [row_get (i:=l) h2] at h4
      rw [row_get (i:=l) h2,row_get (i:=e) (by omega)] at h5'
      have el:l = e + 1:=by
        have:(l:Int) = (e:Int) + 1:=h5'
        omega
      subst el
      refine ⟨e,h2,?_,?_⟩
      · rw [isM_nm (hx _ (getD_mem (by omega)))]
        exact decide_eq_true h3
      · rw [isM_nm (hx _ (getD_mem h2))]
        exact decide_eq_true h4
  | forest ns =>
    rw [Bool.eq_iff_iff,due_iff]
    show besideN m n ns = true ↔ _
    rw [besideN_iff,spots_for_len]
    have bs:∀ e l,besideS (.forest ns) e l = (decide (depS (spotsS (.forest ns)) e = depS (spotsS (.forest ns)) l) && (List.range (l - (e + 1))).all fun j=>decide (depS (spotsS (.forest ns)) e < depS (spotsS (.forest ns)) (e + 1 + j))):=fun _ _=>rfl
    constructor
    · rintro ⟨e,h1,h2,h3⟩
      refine ⟨e,e + tailN ns e + 1,by omega,h1,by rw [for_get (by omega)]; exact h2,by rw [for_get h1,h3],?_⟩
      rw [bs,Bool.and_eq_true]
      refine ⟨decide_eq_true (by rw [for_dep (by omega),for_dep h1,h3]),List.all_eq_true.mpr fun j hj=>decide_eq_true ?_⟩
      have hj':=List.mem_range.mp hj
      rw [for_dep (by omega),for_dep (by omega)]
      exact (tail_iff (l:=e + 1 + j) (by omega)).mp (by omega) _ (by omega) (Nat.le_refl _)
    · rintro ⟨e,l,h1,h2,h3,h4,h5⟩
      rw [bs,Bool.and_eq_true] at h5
      have d1:=of_decide_eq_true h5.1
      rw [for_dep (by omega),for_dep h2] at d1
      rw [for_get (by omega)] at h3
      rw [for_get h2] at h4
      have up:l - 1 ≤ e + tailN ns e:=(tail_iff (l:=l - 1) (by omega)).mpr fun j hj1 hj2=>by
        have:=of_decide_eq_true (List.all_eq_true.mp h5.2 (j - (e + 1)) (List.mem_range.mpr (by omega)))
        rw [show e + 1 + (j - (e + 1)) = j by omega,for_dep (by omega),for_dep (by omega)] at this
        exact this
      have no:¬ l ≤ e + tailN ns e:=fun h=>by
        have:=(tail_iff h2).mp h l h1 (Nat.le_refl _)
        omega
      have el:l = e + tailN ns e + 1:=by omega
      subst el
      exact ⟨e,h2,h3,Prod.ext h4 d1.symm⟩
  | table ls w =>
    have hl:=o.2.2
    rw [Bool.eq_iff_iff,due_iff]
    show ls.any (nextB m n) = true ↔ _
    rw [besideT_iff hl]
    have dp:∀ {j c:Nat},j < ls.length → c < w → depS (spotsS (.table ls w)) (j * w + c) = (j:Int):=fun hj hc=>by
      unfold depS
      rw [tab_get hl hj hc]
    constructor
    · rintro ⟨j,c,hj,hc,h1,h2⟩
      refine ⟨j * w + c,j * w + (c + 1),by omega,by rw [spots_tab_len,flat_le hl]; exact pos_lt hj hc,by rw [tab_get hl hj (by omega)]; exact h1,by rw [tab_get hl hj hc]; exact h2,?_⟩
      rw [besT,tab_get hl hj hc,tab_get hl hj (by omega),dp hj hc,dp hj (by omega),decide_eq_true rfl,Bool.true_and]
      exact decide_eq_true (by show ((c + 1:Nat):Int) = (c:Int) + 1; omega)
    · rintro ⟨e,l,h1,h2,h3,h4,h5⟩
      obtain ⟨j1,c1,a1,a2,rfl⟩:=tab_split hl (show e < _ by omega)
      obtain ⟨j2,c2,b1,b2,rfl⟩:=tab_split hl h2
      rw [besT,tab_get hl a1 a2,tab_get hl b1 b2,dp a1 a2,dp b1 b2,Bool.and_eq_true] at h5
      rw [tab_get hl a1 a2] at h3
      rw [tab_get hl b1 b2] at h4
      have ej:j1 = j2:=by have:=of_decide_eq_true h5.1; omega
      subst ej
      have ec:c2 = c1 + 1:=by
        have:(c2:Int) = (c1:Int) + 1:=of_decide_eq_true h5.2
        omega
      subst ec
      exact ⟨j1,c1,a1,b2,h3,h4⟩
theorem any_many_of {ad:Adr} {H:Hp} {p:Addr} {d:Dsc} {m:Str} {Q:VK} {E:XK} (h:ThObj ad H p d) (k:Q (.int (countD d m:Nat)) H) :
    ((∃ x y,H p = some (.ins ad.Row x y) ∧ List.lookup (Str.ofString "many_of") y = none ∧ sp_many_of ad [.ref p,.str m] H Q E) ∨ ∃ x y,H p = some (.ins ad.Forest x y) ∧ List.lookup (Str.ofString "many_of") y = none ∧ sp_many_of ad [.ref p,.str m] H Q E) ∨ ∃ x y,H p = some (.ins ad.Table x y) ∧ List.lookup (Str.ofString "many_of") y = none ∧ sp_many_of ad [.ref p,.str m] H Q E:=by
  cases d with
  | row xs=>obtain ⟨dx,t,h1,_⟩:=id h; exact .inl (.inl ⟨dx,_,h1,rfl,p,_,m,rfl,h,k⟩)
  | forest ns=>obtain ⟨⟨dx,t1,t2,xs,h1,_⟩,_⟩:=id h; exact .inl (.inr ⟨dx,_,h1,lookup_no (by decide +kernel) (by decide +kernel),p,_,m,rfl,h,k⟩)
  | table ls w=>obtain ⟨dx,t1,t2,ts,h1,_⟩:=id h; exact .inr ⟨dx,_,h1,lookup_no3 (by decide +kernel) (by decide +kernel) (by decide +kernel),p,_,m,rfl,h,k⟩
def relD (d:Dsc) (w a b:Str):Bool:=if w = "before" then aheadB a b (spotsD d) else if w = "under" then underD d a b else besideD d a b
mutual
def holdsT (d:Dsc):Tm → Bool
  | .has m=>decide (0 < countD d m)
  | .many k m=>decide (k ≤ (countD d m:Int))
  | .pair w a b=>relD d w a b
  | .joint true ps=>holdsA d ps
  | .joint false ps=>holdsE d ps
  | .not p=>!holdsT d p
def holdsA (d:Dsc):List Tm → Bool
  | []=>true
  | p :: ps=>holdsT d p && holdsA d ps
def holdsE (d:Dsc):List Tm → Bool
  | []=>false
  | p :: ps=>holdsT d p || holdsE d ps
end
theorem holdsA_all (d:Dsc):∀ ps,holdsA d ps = ps.all (holdsT d)
  | []=>rfl
  | p :: ps=>by unfold holdsA; rw [List.all_cons,holdsA_all d ps]
theorem holdsE_any (d:Dsc):∀ ps,holdsE d ps = ps.any (holdsT d)
  | []=>rfl
  | p :: ps=>by unfold holdsE; rw [List.any_cons,holdsE_any d ps]
def sp_Has_holds (ad:Adr):Sp:=fun vs H Q _=>∃ (p q:Addr) (d:Dsc) (m:Str),vs = [.ref p,.ref q] ∧ FtAt ad H (.ref p) (.has m) ∧ okT (.has m) ∧ ThObj ad H q d ∧ ∀ H',Same H H' → Q (.bl (holdsT d (.has m))) H'
def sp_Many_holds (ad:Adr):Sp:=fun vs H Q _=>∃ (p q:Addr) (d:Dsc) (k:Int) (m:Str),vs = [.ref p,.ref q] ∧ FtAt ad H (.ref p) (.many k m) ∧ okT (.many k m) ∧ ThObj ad H q d ∧ ∀ H',Same H H' → Q (.bl (holdsT d (.many k m))) H'
def sp_Before_holds (ad:Adr):Sp:=fun vs H Q _=>∃ (p q:Addr) (d:Dsc) (a b:Str),vs = [.ref p,.ref q] ∧ FtAt ad H (.ref p) (.pair "before" a b) ∧ okT (.pair "before" a b) ∧ ThObj ad H q d ∧ ∀ H',Same H H' → Q (.bl (holdsT d (.pair "before" a b))) H'
def sp_Under_holds (ad:Adr):Sp:=fun vs H Q _=>∃ (p q:Addr) (d:Dsc) (a b:Str),vs = [.ref p,.ref q] ∧ FtAt ad H (.ref p) (.pair "under" a b) ∧ okT (.pair "under" a b) ∧ ThObj ad H q d ∧ ∀ H',Same H H' → Q (.bl (holdsT d (.pair "under" a b))) H'
def sp_Beside_holds (ad:Adr):Sp:=fun vs H Q _=>∃ (p q:Addr) (d:Dsc) (a b:Str),vs = [.ref p,.ref q] ∧ FtAt ad H (.ref p) (.pair "beside" a b) ∧ okT (.pair "beside" a b) ∧ ThObj ad H q d ∧ ∀ H',Same H H' → Q (.bl (holdsT d (.pair "beside" a b))) H'
def sp_All_holds (ad:Adr) (n:Nat):Sp:=fun vs H Q _=>∃ (p q:Addr) (d:Dsc) (ps:List Tm),vs = [.ref p,.ref q] ∧ FtAt ad H (.ref p) (.joint true ps) ∧ okT (.joint true ps) ∧ ThObj ad H q d ∧ dpL ps + 1 < n ∧ ∀ H',Same H H' → Q (.bl (holdsT d (.joint true ps))) H'
def sp_Any_holds (ad:Adr) (n:Nat):Sp:=fun vs H Q _=>∃ (p q:Addr) (d:Dsc) (ps:List Tm),vs = [.ref p,.ref q] ∧ FtAt ad H (.ref p) (.joint false ps) ∧ okT (.joint false ps) ∧ ThObj ad H q d ∧ dpL ps + 1 < n ∧ ∀ H',Same H H' → Q (.bl (holdsT d (.joint false ps))) H'
def sp_Not_holds (ad:Adr) (n:Nat):Sp:=fun vs H Q _=>∃ (p q:Addr) (d:Dsc) (t:Tm),vs = [.ref p,.ref q] ∧ FtAt ad H (.ref p) (.not t) ∧ okT (.not t) ∧ ThObj ad H q d ∧ dpT t + 1 < n ∧ ∀ H',Same H H' → Q (.bl (holdsT d (.not t))) H'
theorem th_pick {ad:Adr} {H:Hp} {q:Addr} {d:Dsc} (ht:ThObj ad H q d) {nm:Str} (e1:(nm == Str.ofString "spot_marks") = false) (e2:(nm == Str.ofString "nodes") = false) (e3:(nm == Str.ofString "lines") = false) (e4:(nm == Str.ofString "columns") = false) {R1 R2 R3:Prop}
    (f1:∀ xs,d = .row xs → ∀ dx fs,H q = some (.ins ad.Row dx fs) → List.lookup nm fs = none → R1) (f2:∀ ns,d = .forest ns → ∀ dx fs,H q = some (.ins ad.Forest dx fs) → List.lookup nm fs = none → R2)
    (f3:∀ ls w,d = .table ls w → ∀ dx fs,H q = some (.ins ad.Table dx fs) → List.lookup nm fs = none → R3):(R1 ∨ R2) ∨ R3:=by
  cases d with
  | row xs=>obtain ⟨dx,t,h1,_⟩:=id ht; exact .inl (.inl (f1 xs rfl dx _ h1 (by rw [List.lookup_cons,e1]; rfl)))
  | forest ns=>obtain ⟨⟨dx,t1,t2,xs,h1,_⟩,_⟩:=id ht; exact .inl (.inr (f2 ns rfl dx _ h1 (lookup_no e1 e2)))
  | table ls w=>obtain ⟨dx,t1,t2,ts,h1,_⟩:=id ht; exact .inr (f3 ls w rfl dx _ h1 (lookup_no3 e1 e3 e4))
theorem lk2 {α:Type} {a b:Str} {x y:α} (h:(b == a) = false):List.lookup b [(a,x),(b,y)] = some y:=by
  rw [List.lookup_cons,h,List.lookup_cons,beq_self_eq_true]
def AtH (ad:Adr) (C:Addr) (sp:Sp) (H:Hp) (v:V) (q:Addr) (Q:VK) (E:XK):Prop:=∃ a dx fs,v = .ref a ∧ H a = some (.ins C dx fs) ∧ List.lookup (Str.ofString "holds") fs = none ∧ sp [v,.ref q] H Q E
theorem ft_pick {ad:Adr} {H:Hp} {v:V} {q:Addr} {d:Dsc} {tm:Tm} {n:Nat} {Q:VK} {E:XK} (h:FtAt ad H v tm) (ok:okT tm) (ht:ThObj ad H q d) (hd:dpT tm < n) (k:∀ H',Same H H' → Q (.bl (holdsT d tm)) H') {R1 R2 R3 R4 R5 R6 R7 R8:Prop}
    (f1:AtH ad ad.Has (sp_Has_holds ad) H v q Q E → R1) (f2:AtH ad ad.Many (sp_Many_holds ad) H v q Q E → R2) (f3:AtH ad ad.Before (sp_Before_holds ad) H v q Q E → R3) (f4:AtH ad ad.Under (sp_Under_holds ad) H v q Q E → R4)
    (f5:AtH ad ad.Beside (sp_Beside_holds ad) H v q Q E → R5) (f6:AtH ad ad.All (sp_All_holds ad n) H v q Q E → R6) (f7:AtH ad ad.Any (sp_Any_holds ad n) H v q Q E → R7) (f8:AtH ad ad.Not (sp_Not_holds ad n) H v q Q E → R8) :
    ((((((R1 ∨ R2) ∨ R3) ∨ R4) ∨ R5) ∨ R6) ∨ R7) ∨ R8:=by
  cases tm with
  | has m =>
    have h0:=h
    unfold FtAt at h; obtain ⟨a,dx,rfl,h⟩:=h
    exact .inl (.inl (.inl (.inl (.inl (.inl (.inl (f1 ⟨a,dx,_,rfl,h,rfl,a,q,d,m,rfl,h0,ok,ht,k⟩)))))))
  | many i m =>
    have h0:=h
    unfold FtAt at h; obtain ⟨a,dx,rfl,h⟩:=h
    exact .inl (.inl (.inl (.inl (.inl (.inl (.inr (f2 ⟨a,dx,_,rfl,h,lookup_no (by decide +kernel) (by decide +kernel),a,q,d,i,m,rfl,h0,ok,ht,k⟩)))))))
  | pair w x y =>
    have h0:=h
    unfold FtAt at h; obtain ⟨a,dx,rfl,h⟩:=h
    have ok0:=ok
    unfold okT at ok
    rcases ok.1 with rfl | rfl | rfl
    · exact .inl (.inl (.inl (.inl (.inl (.inr (f3 ⟨a,dx,_,rfl,h,lookup_no (by decide +kernel) (by decide +kernel),a,q,d,x,y,rfl,h0,ok0,ht,k⟩))))))
    · exact .inl (.inl (.inl (.inl (.inr (f4 ⟨a,dx,_,rfl,h,lookup_no (by decide +kernel) (by decide +kernel),a,q,d,x,y,rfl,h0,ok0,ht,k⟩)))))
    · exact .inl (.inl (.inl (.inr (f5 ⟨a,dx,_,rfl,h,lookup_no (by decide +kernel) (by decide +kernel),a,q,d,x,y,rfl,h0,ok0,ht,k⟩))))
  | joint b ps =>
    have h0:=h
    unfold FtAt at h; obtain ⟨a,dx,t,xs,rfl,h,_⟩:=h
    unfold dpT at hd
    cases b with
    | true=>exact .inl (.inl (.inr (f6 ⟨a,dx,_,rfl,h,rfl,a,q,d,ps,rfl,h0,ok,ht,hd,k⟩)))
    | false=>exact .inl (.inr (f7 ⟨a,dx,_,rfl,h,rfl,a,q,d,ps,rfl,h0,ok,ht,hd,k⟩))
  | not p =>
    have h0:=h
    unfold FtAt at h; obtain ⟨a,dx,x,rfl,h,_⟩:=h
    unfold dpT at hd
    exact .inr (f8 ⟨a,dx,_,rfl,h,rfl,a,q,d,p,rfl,h0,ok,ht,hd,k⟩)
def sp__law_spots:Sp:=fun vs H Q _=>∃ (l:Addr) (d:Dsc),vs = [.int (kindN d),.ref l] ∧ DataAt H l d ∧ DOk d ∧ ∀ p H',Same H H' → H' p = some (.lst (spotsD d)) → Q (.ref p) H'
def sp__law_pairs:Sp:=fun vs H Q _=>∃ (l:Addr) (d:Dsc) (w:Str),vs = [.int (kindN d),.ref l,.str w] ∧ DataAt H l d ∧ DOk d ∧ pairW w ∧ ∀ p ys H',Same H H' → H' p = some (.lst ys) → RowsAt .tup H' ys (pairsL d w) → Q (.ref p) H'
def sp__law_holds (n:Nat):Sp:=fun vs H Q _=>∃ (l:Addr) (d:Dsc) (v:V) (tm:Tm),vs = [.int (kindN d),.ref l,v] ∧ DataAt H l d ∧ DOk d ∧ TmAt H v tm ∧ okT tm ∧ dpT tm < n ∧ ∀ H',Same H H' → Q (.bl (holdsT d tm)) H'
def sp__law_whole_term (n:Nat):Sp:=fun vs H Q _=>∃ (l:Addr) (d:Dsc) (v:V) (tm:Tm),vs = [.int (kindN d),.ref l,v] ∧ DataAt H l d ∧ DOk d ∧ TmAt H v tm ∧ okT tm ∧ dpT tm < n ∧ dpT tm < 10 ∧ ∀ H',Same H H' → Q (.bl true) H'
def sp_law (K:PySem.W.Frag):Sp:=fun vs H Q _=>∃ (a:Addr) (ns:List Int),vs = [.ref a] ∧ SqL K H a (ns.map V.int) ∧ ns.length ≤ 63 ∧ ∀ H',Q (.bl true) H'
def sp__law_thing (ad:Adr):Sp:=fun vs H Q _=>∃ (l:Addr) (d:Dsc),vs = [.int (kindN d),.ref l] ∧ DataAt H l d ∧ DOk d ∧ ∀ p H',Same H H' → ThObj ad H' p d → Q (.ref p) H'
theorem mod_cols {w j1 j2 c1 c2:Nat} (h:j1 * w + c1 < j2 * w + c2) (a2:c1 < w) (b2:c2 < w):(j2 * w + c2 - (j1 * w + c1)) % w = 0 ↔ (c1:Int) = (c2:Int):=by
  constructor
  · intro hm
    obtain ⟨q,hq⟩:=Nat.dvd_of_mod_eq_zero hm
    have e:j2 * w + c2 = (j1 + q) * w + c1:=by rw [Nat.add_mul,Nat.mul_comm q w]; omega
    have e2:(j2 * w + c2) % w = ((j1 + q) * w + c1) % w:=by rw [e]
    rw [Nat.mul_add_mod',Nat.mul_add_mod',Nat.mod_eq_of_lt a2,Nat.mod_eq_of_lt b2] at e2
    omega
  · intro hc
    have e:c1 = c2:=by omega
    subst e
    rw [Nat.add_sub_add_right,← Nat.sub_mul]
    exact Nat.mul_mod_left _ _
theorem next_cols {w j1 j2 c1 c2:Nat} (a2:c1 < w) (b2:c2 < w):(j2 * w + c2 = j1 * w + c1 + 1 ∧ 0 < (j2 * w + c2) % w) ↔ ((j1:Int) = (j2:Int) ∧ (c2:Int) = (c1:Int) + 1):=by
  rw [Nat.mul_add_mod',Nat.mod_eq_of_lt b2]
  constructor
  · rintro ⟨h1,h2⟩
    have ej:j1 = j2:=by
      rcases Nat.lt_trichotomy j1 j2 with h | h | h
      · have:=Nat.mul_le_mul_right w (show j1 + 1 ≤ j2 from h)
        rw [Nat.add_mul,Nat.one_mul] at this
        omega
      · exact h
      · have:=Nat.mul_le_mul_right w (show j2 + 1 ≤ j1 from h)
        rw [Nat.add_mul,Nat.one_mul] at this
        omega
    subst ej
    omega
  · rintro ⟨h1,h2⟩
    have ej:j1 = j2:=by omega
    subst ej
    omega
theorem relK_under {d:Dsc} (o:DOk d) {e l:Nat} (h:e < l) (hl:l < (spotsS d).length):relK d "under" e l = underS d e l:=by
  unfold relK
  rw [if_neg (by decide +kernel)]
  cases d with
  | row xs =>
    show (decide (("under":Str) = "beside") && decide (l = e + 1)) = false
    rw [decide_eq_false (by decide +kernel),Bool.false_and]
  | forest ns =>
    rw [spots_for_len] at hl
    show (if ("under":Str) = "under" then decide (l < e + tailN ns e + 1) else _) = aboveS (spotsS (.forest ns)) e l
    rw [if_pos rfl,Bool.eq_iff_iff,above_iff,decide_eq_true_iff]
    constructor
    · intro h5 j h1 h2
      rw [for_dep (by omega),for_dep (by omega)]
      exact (tail_iff hl).mp (by omega) j h1 h2
    · intro h5
      have:=(tail_iff (e:=e) hl).mpr fun j h1 h2=>by
        have:=h5 j h1 h2
        rwa [for_dep (by omega),for_dep (by omega)] at this
      omega
  | table ls w =>
    have hl':=o.2.2
    show (if ("under":Str) = "under" then decide ((l - e) % w = 0) else _) = decide ((((spotsS (.table ls w)).getD e ("",0,0)).2.2) = ((spotsS (.table ls w)).getD l ("",0,0)).2.2)
    rw [if_pos rfl]
    obtain ⟨j1,c1,a1,a2,rfl⟩:=tab_split hl' (show e < _ by omega)
    obtain ⟨j2,c2,b1,b2,rfl⟩:=tab_split hl' hl
    rw [tab_get hl' a1 a2,tab_get hl' b1 b2]
    exact decide_eq_decide.mpr (mod_cols h a2 b2)
theorem relK_beside {d:Dsc} (o:DOk d) {e l:Nat} (h:e < l) (hl:l < (spotsS d).length):relK d "beside" e l = besideS d e l:=by
  unfold relK
  rw [if_neg (by decide +kernel)]
  cases d with
  | row xs =>
    rw [spots_row_len] at hl
    show (decide (("beside":Str) = "beside") && decide (l = e + 1)) = decide (((spotsS (.row xs)).getD l ("",0,0)).2.2 = ((spotsS (.row xs)).getD e ("",0,0)).2.2 + 1)
    rw [decide_eq_true rfl,Bool.true_and,row_get hl,row_get (by omega)]
    apply decide_eq_decide.mpr
    show l = e + 1 ↔ (l:Int) = (e:Int) + 1
    omega
  | forest ns =>
    rw [spots_for_len] at hl
    show (if ("beside":Str) = "under" then _ else decide (l = e + tailN ns e + 1) && decide ((ns.getD l ("",0)).2 = (ns.getD e ("",0)).2)) = (decide (depS (spotsS (.forest ns)) e = depS (spotsS (.forest ns)) l) && (List.range (l - (e + 1))).all fun j=>decide (depS (spotsS (.forest ns)) e < depS (spotsS (.forest ns)) (e + 1 + j)))
    rw [if_neg (by decide +kernel),Bool.eq_iff_iff,Bool.and_eq_true,Bool.and_eq_true,decide_eq_true_iff,decide_eq_true_iff,decide_eq_true_iff,List.all_eq_true,for_dep (by omega),for_dep hl]
    constructor
    · rintro ⟨h1,h2⟩
      refine ⟨h2.symm,fun j hj=>decide_eq_true ?_⟩
      have hj':=List.mem_range.mp hj
      rw [for_dep (by omega)]
      exact (tail_iff (l:=e + 1 + j) (by omega)).mp (by omega) _ (by omega) (Nat.le_refl _)
    · rintro ⟨h1,h2⟩
      have up:l - 1 ≤ e + tailN ns e:=(tail_iff (l:=l - 1) (by omega)).mpr fun j hj1 hj2=>by
        have:=of_decide_eq_true (h2 (j - (e + 1)) (List.mem_range.mpr (by omega)))
        rw [show e + 1 + (j - (e + 1)) = j by omega,for_dep (by omega)] at this
        exact this
      have no:¬ l ≤ e + tailN ns e:=fun h3=>by
        have:=(tail_iff hl).mp h3 l h (Nat.le_refl _)
        omega
      exact ⟨by omega,h1.symm⟩
  | table ls w =>
    have hl':=o.2.2
    show (if ("beside":Str) = "under" then _ else decide (l = e + 1) && decide (0 < l % w)) = _
    rw [if_neg (by decide +kernel),besT]
    obtain ⟨j1,c1,a1,a2,rfl⟩:=tab_split hl' (show e < _ by omega)
    obtain ⟨j2,c2,b1,b2,rfl⟩:=tab_split hl' hl
    unfold depS
    rw [tab_get hl' a1 a2,tab_get hl' b1 b2,Bool.eq_iff_iff,Bool.and_eq_true,Bool.and_eq_true,decide_eq_true_iff,decide_eq_true_iff,decide_eq_true_iff,decide_eq_true_iff]
    exact next_cols a2 b2
theorem relD_any {d:Dsc} (o:DOk d) {w:Str} (a b:Str) (hw:pairW w):relD d w a b = (pairsN (spotsD d).length).any fun p=>nameS (spotsS d) a b p && relK d w p.1 p.2:=by
  have key:∀ f:Nat → Nat → Bool,(∀ e l,e < l → l < (spotsS d).length → relK d w e l = f e l) → dueS f (spotsS d) a b (pairsN (spotsS d).length) = (pairsN (spotsD d).length).any fun p=>nameS (spotsS d) a b p && relK d w p.1 p.2:=fun f hf=>by
    rw [← spots_lenD]
    unfold dueS
    rw [Bool.eq_iff_iff,pairs_any,pairs_any]
    constructor
    · rintro ⟨e,l,h1,h2,h3⟩
      refine ⟨e,l,h1,h2,?_⟩
      dsimp only at h3 ⊢
      rw [hf e l h1 h2]
      exact h3
    · rintro ⟨e,l,h1,h2,h3⟩
      refine ⟨e,l,h1,h2,?_⟩
      dsimp only at h3 ⊢
      rw [hf e l h1 h2] at h3
      exact h3
  unfold relD
  rcases hw with rfl | rfl | rfl
  · rw [if_pos rfl,← key (fun _ _=>true) (fun e l _ _=>if_pos rfl),dueBefore o]
    unfold dueS
    congr 1
    funext p
    exact (Bool.and_true _).symm
  · rw [if_neg (by decide +kernel),if_pos rfl,dueUnder o]
    exact key _ fun e l h1 h2=>relK_under o h1 h2
  · rw [if_neg (by decide +kernel),if_neg (by decide +kernel),dueBeside o]
    exact key _ fun e l h1 h2=>relK_beside o h1 h2
theorem pairs_mem {n:Nat} {p:Nat × Nat} (h:p ∈ pairsN n):p.1 < p.2 ∧ p.2 < n:=by
  obtain ⟨q,hq,hpq⟩:=List.mem_flatten.mp h
  obtain ⟨e,he,rfl⟩:=List.mem_map.mp hq
  obtain ⟨j,hj,rfl⟩:=List.mem_map.mp hpq
  have:=List.mem_range.mp he
  have:=List.mem_range.mp hj
  dsimp only
  omega
theorem pair_marks {d:Dsc} (o:DOk d) (w:Str):∀ r ∈ pairsL d w,r.all markV = true:=fun r hr=>by
  have mk:=List.all_eq_true.mp (spots_marks o)
  obtain ⟨p,hp,rfl⟩:=List.mem_map.mp hr
  have hp':=(List.mem_filter.mp hp).1
  obtain ⟨h1,h2⟩:=pairs_mem hp'
  rw [List.all_cons,List.all_cons,List.all_nil,mk _ (getD_mem (show p.1 < (spotsD d).length by omega)),mk _ (getD_mem h2)]
  rfl
def datP (a b:Str):PyData:=.tuple [.str a,.str b]
theorem pair_any {d:Dsc} (o:DOk d) {w:Str} (a b:Str) (hw:pairW w):((pairsL d w).map fun l=>PyData.tuple (l.map datM)).any (fun e=>PyData.eqv e (datP a b)) = relD d w a b:=by
  have mk:=List.all_eq_true.mp (spots_marks o)
  rw [relD_any o a b hw]
  unfold pairsL pairsO
  rw [List.any_map,List.any_map,List.any_filter,Bool.eq_iff_iff,pairs_any,pairs_any]
  have one:∀ e l,e < l → l < (spotsD d).length → PyData.eqv (PyData.tuple ([(spotsD d).getD e .non,(spotsD d).getD l .non].map datM)) (datP a b) = nameS (spotsS d) a b (e,l):=fun e l h1 h2=>by
    have n1:=nm_get o (m:=a) (i:=e) (by rw [spots_lenD]; omega)
    have n2:=nm_get o (m:=b) (i:=l) (by rw [spots_lenD]; exact h2)
    have m1:=mk _ (getD_mem (a:=V.non) (show e < (spotsD d).length by omega))
    have m2:=mk _ (getD_mem (a:=V.non) h2)
    unfold nameS
    dsimp only
    rw [← n1,← n2]
    generalize (spotsD d).getD e .non = x at m1
    generalize (spotsD d).getD l .non = y at m2
    cases x with
    | str x=>cases y with
      | str y =>
        show (x == a && (y == b && true)) = (eqV (.str x) (.str a) && eqV (.str y) (.str b))
        rw [Bool.and_true]
        rfl
      | _=>exact nomatch (show false = true from m2)
    | _=>exact nomatch (show false = true from m1)
  constructor
  · rintro ⟨e,l,h1,h2,h3⟩
    refine ⟨e,l,h1,h2,?_⟩
    dsimp only [Function.comp] at h3 ⊢
    rw [one e l h1 h2,Bool.and_comm] at h3
    exact h3
  · rintro ⟨e,l,h1,h2,h3⟩
    refine ⟨e,l,h1,h2,?_⟩
    dsimp only [Function.comp] at h3 ⊢
    rw [one e l h1 h2,Bool.and_comm]
    exact h3
theorem shaped_pairP {a b:Str} (ha:markS a = true) (hb:markS b = true):SeqAt.shaped (datP a b) = true:=by
  have c:=canLay_marks (l:=[.str a,.str b]) (by rw [List.all_cons,List.all_cons,List.all_nil]; show (markS a && (markS b && true)) = true; rw [ha,hb]; rfl)
  unfold SeqAt.shaped
  rw [Bool.and_eq_true]
  refine ⟨by unfold datP; simp only [PyData.canLay0]; exact c,decide_eq_true ?_⟩
  have:=depth_marks [.str a,.str b]
  simp only [List.map_cons,List.map_nil,datM] at this
  simp only [datP,PyData.depth]
  omega
theorem shaped_pairs {d:Dsc} (o:DOk d) (w:Str):∀ e ∈ (pairsL d w).map (fun l=>PyData.tuple (l.map datM)),SeqAt.shaped e = true:=fun e he=>by
  obtain ⟨r,hr,rfl⟩:=List.mem_map.mp he
  have c:=canLay_marks (pair_marks o w r hr)
  unfold SeqAt.shaped
  rw [Bool.and_eq_true]
  refine ⟨by simp only [PyData.canLay0]; exact c,decide_eq_true ?_⟩
  have:=depth_marks r
  simp only [PyData.depth]
  omega
theorem has_count {m:Str} {xs:List V}:inV (.str m) xs = decide (0 < xs.countP (isM m)):=by
  rw [Bool.eq_iff_iff,decide_eq_true_iff]
  unfold inV
  rw [List.any_eq_true]
  exact List.countP_pos_iff.symm
def MdH (ad:Adr) (C:Addr) (sp:Sp) (H:Hp) (v:V) (l:Addr) (d:Dsc) (Q:VK) (E1 E2 E3:XK):Prop:=sp__law_fault ad 10 [v] H (fun x H1=>∃ a,x = .ref a ∧ ∃ dx fs,H1 a = some (.ins C dx fs) ∧ List.lookup (Str.ofString "holds") fs = none ∧ sp__law_thing ad [.int (kindN d),.ref l] H1 (fun y H2=>sp [x,y] H2 Q E1) E2) E3
theorem ft_made {ad:Adr} {H:Hp} {v:V} {l:Addr} {d:Dsc} {tm:Tm} {Q:VK} {E1 E2 E3:XK} (ht:TmAt H v tm) (ok:okT tm) (hdp:dpT tm < 10) (hdat:DataAt H l d) (dO:DOk d) (k:∀ H',Same H H' → Q (.bl (holdsT d tm)) H') :
    ((((((MdH ad ad.Has (sp_Has_holds ad) H v l d Q E1 E2 E3 ∨ MdH ad ad.Many (sp_Many_holds ad) H v l d Q E1 E2 E3) ∨ MdH ad ad.Before (sp_Before_holds ad) H v l d Q E1 E2 E3) ∨ MdH ad ad.Under (sp_Under_holds ad) H v l d Q E1 E2 E3) ∨ MdH ad ad.Beside (sp_Beside_holds ad) H v l d Q E1 E2 E3) ∨ MdH ad ad.All (sp_All_holds ad 10) H v l d Q E1 E2 E3) ∨ MdH ad ad.Any (sp_Any_holds ad 10) H v l d Q E1 E2 E3) ∨ MdH ad ad.Not (sp_Not_holds ad 10) H v l d Q E1 E2 E3:=by
  have go:∀ {C:Addr} {sp:Sp},(∀ u H1,FtAt ad H1 u tm → ∃ a dx fs,u = .ref a ∧ H1 a = some (.ins C dx fs) ∧ List.lookup (Str.ofString "holds") fs = none ∧ ∀ H2 q,FtAt ad H2 u tm → ThObj ad H2 q d → (∀ H',Same H2 H' → Q (.bl (holdsT d tm)) H') → sp [u,.ref q] H2 Q E1) → MdH ad C sp H v l d Q E1 E2 E3:=fun f =>
    ⟨v,tm,rfl,ht,ok,hdp,fun u H1 s1 f1=>by
      obtain ⟨a,dx,fs,e,h,lk,r⟩:=f u H1 f1
      exact ⟨a,e,dx,fs,h,lk,l,d,rfl,hdat.same s1,dO,fun p H2 s2 hp=>r H2 p (f1.same s2) hp fun H' s'=>k H' ((s1.trans s2).trans s')⟩⟩
  cases tm with
  | has m=>exact .inl (.inl (.inl (.inl (.inl (.inl (.inl (go fun u H1 f1=>by
      unfold FtAt at f1; obtain ⟨a,dx,rfl,h⟩:=f1
      exact ⟨a,dx,_,rfl,h,rfl,fun H2 q f2 hq k'=>⟨a,q,d,m,rfl,f2,ok,hq,k'⟩⟩)))))))
  | many i m=>exact .inl (.inl (.inl (.inl (.inl (.inl (.inr (go fun u H1 f1=>by
      unfold FtAt at f1; obtain ⟨a,dx,rfl,h⟩:=f1
      exact ⟨a,dx,_,rfl,h,lookup_no (by decide +kernel) (by decide +kernel),fun H2 q f2 hq k'=>⟨a,q,d,i,m,rfl,f2,ok,hq,k'⟩⟩)))))))
  | pair w x y =>
    have ok0:=ok
    unfold okT at ok
    rcases ok.1 with rfl | rfl | rfl
    · exact .inl (.inl (.inl (.inl (.inl (.inr (go fun u H1 f1=>by
        unfold FtAt at f1; obtain ⟨a,dx,rfl,h⟩:=f1
        exact ⟨a,dx,_,rfl,h,lookup_no (by decide +kernel) (by decide +kernel),fun H2 q f2 hq k'=>⟨a,q,d,x,y,rfl,f2,ok0,hq,k'⟩⟩))))))
    · exact .inl (.inl (.inl (.inl (.inr (go fun u H1 f1=>by
        unfold FtAt at f1; obtain ⟨a,dx,rfl,h⟩:=f1
        exact ⟨a,dx,_,rfl,h,lookup_no (by decide +kernel) (by decide +kernel),fun H2 q f2 hq k'=>⟨a,q,d,x,y,rfl,f2,ok0,hq,k'⟩⟩)))))
    · exact .inl (.inl (.inl (.inr (go fun u H1 f1=>by
        unfold FtAt at f1; obtain ⟨a,dx,rfl,h⟩:=f1
        exact ⟨a,dx,_,rfl,h,lookup_no (by decide +kernel) (by decide +kernel),fun H2 q f2 hq k'=>⟨a,q,d,x,y,rfl,f2,ok0,hq,k'⟩⟩))))
  | joint b ps =>
    have hdp0:=hdp
    unfold dpT at hdp
    cases b with
    | true=>exact .inl (.inl (.inr (go fun u H1 f1=>by
        unfold FtAt at f1; obtain ⟨a,dx,t,xs,rfl,h,_⟩:=f1
        exact ⟨a,dx,_,rfl,h,rfl,fun H2 q f2 hq k'=>⟨a,q,d,ps,rfl,f2,ok,hq,hdp,k'⟩⟩)))
    | false=>exact .inl (.inr (go fun u H1 f1=>by
        unfold FtAt at f1; obtain ⟨a,dx,t,xs,rfl,h,_⟩:=f1
        exact ⟨a,dx,_,rfl,h,rfl,fun H2 q f2 hq k'=>⟨a,q,d,ps,rfl,f2,ok,hq,hdp,k'⟩⟩))
  | not p =>
    have hdp0:=hdp
    unfold dpT at hdp
    exact .inr (go fun u H1 f1=>by
        unfold FtAt at f1; obtain ⟨a,dx,x,rfl,h,_⟩:=f1
        exact ⟨a,dx,_,rfl,h,rfl,fun H2 q f2 hq k'=>⟨a,q,d,p,rfl,f2,ok,hq,hdp,k'⟩⟩)
section
variable {P:Program} {w:World} {K:PySem.W.Frag} {mg:Str → Option Value} {base:Heap} {ad:Adr}
theorem ok_Has_init {f:Addr} {fd:FuncData} (F:Fun K "__init__" "Has.__init__" s_Has_init f fd) (T:Txt K mg ad):FnOk P w K mg base CX0 1 f fd ["self","mark"] (sp_Has_init ad):=by
  refine F.ok sc_Has_init (fun vs H Q E h=>?_) (fun cdv A outer s H vs Q E hr h=>?_)
  · obtain ⟨p,dx,m,rfl,_⟩:=h
    rfl
  · obtain ⟨p,dx,m,rfl,h,k⟩:=h
    refine ⟨_,(@pss_one _ _ _ (ps_fld (pv 0) (pv 1) rfl)),?_⟩
    and_intros
    exact ⟨ad.Has,dx,[],h,T.cl_Has,T.na_Has_mark,by decide,k⟩
theorem ok_Thing_many_of {f:Addr} {fd:FuncData} (F:Fun K "many_of" "Thing.many_of" s_Thing_many_of f fd) (T:Txt K mg ad):FnOk P w K mg base CX0 1 f fd ["self","mark"] (sp_many_of ad):=by
  refine F.ok sc_Thing_many_of (fun vs H Q E h=>?_) (fun cdv A outer s H vs Q E hr h=>?_)
  · obtain ⟨p,d,m,rfl,_⟩:=h
    rfl
  · obtain ⟨p,d,m,rfl,h,k⟩:=h
    refine ⟨_,(@pss_one _ _ _ (ps_ret (pe_countF (pe_fld (pv 0) rfl) (pa_cons (pv 1) pa_nil)))),?_⟩
    and_intros
    cases d with
    | row xs =>
      obtain ⟨dx,t,h1,h2,h3,h4⟩:=h
      refine ⟨ad.Row,dx,_,h1,T.cl_Row,T.na_Row_spot_marks,.ref t,rfl,?_⟩
      exact ⟨t,rfl,⟨xs,h2⟩,t,rfl,xs,h2.sq,rfl,flat_marks2 h3,k⟩
    | forest ns =>
      obtain ⟨⟨dx,t1,t2,xs,h1,h2,h3,h4⟩,h5,_⟩:=h
      refine ⟨ad.Forest,dx,_,h1,T.cl_Forest,T.na_Forest_spot_marks,.ref t1,rfl,t1,rfl,⟨_,h2⟩,t1,rfl,_,h2.sq,rfl,?_,k⟩
      rw [List.all_map]
      exact List.all_eq_true.mpr fun _ _=>rfl
    | table ls w =>
      obtain ⟨dx,t1,t2,ts,h1,h2,h3,h4,h5,h6,h7⟩:=h
      exact ⟨ad.Table,dx,_,h1,T.cl_Table,T.na_Table_spot_marks,.ref t1,rfl,t1,rfl,⟨_,h2⟩,t1,rfl,_,h2.sq,rfl,flat_marks2 (flat_marks fun l hl=>(h7 l hl).2),k⟩
theorem ok_Has_holds {f:Addr} {fd:FuncData} (F:Fun K "holds" "Has.holds" s_Has_holds f fd) (T:Txt K mg ad) {f_Thing_many_of:Addr} {fd_Thing_many_of:FuncData} (G_Thing_many_of:FnOk P w K mg base CX0 1 f_Thing_many_of fd_Thing_many_of ["self","mark"] (sp_many_of ad)) (B_Thing_many_of:Binds K fd_Thing_many_of ["self","mark"] []) (ME_Row_many_of:Meth K ad.Row "many_of" f_Thing_many_of) (ME_Forest_many_of:Meth K ad.Forest "many_of" f_Thing_many_of) (ME_Table_many_of:Meth K ad.Table "many_of" f_Thing_many_of):FnOk P w K mg base CX0 2 f fd ["self","thing"] (sp_Has_holds ad):=by
  refine F.ok sc_Has_holds (fun vs H Q E h=>?_) (fun cdv A outer s H vs Q E hr h=>?_)
  · obtain ⟨p,q,d,m,rfl,_⟩:=h
    rfl
  · obtain ⟨p,q,d,m,rfl,h,ok,ht,k⟩:=h
    unfold FtAt at h
    obtain ⟨a,dx,e,h⟩:=h
    cases e
    have k':=k H (Same.refl _)
    unfold holdsT at k'
    refine ⟨_,(@pss_one _ _ _ (ps_ret (pe_cmpR op_gt (pe_either (pe_either (pe_meth (pv 1) T.cl_Row ME_Row_many_of G_Thing_many_of (hr.mono (by decide)) B_Thing_many_of .nil pass0 (pa_cons (pe_fld (pv 0) rfl) pa_nil)) (pe_meth (pv 1) T.cl_Forest ME_Forest_many_of G_Thing_many_of (hr.mono (by decide)) B_Thing_many_of .nil pass0 (pa_cons (pe_fld (pv 0) rfl) pa_nil))) (pe_meth (pv 1) T.cl_Table ME_Table_many_of G_Thing_many_of (hr.mono (by decide)) B_Thing_many_of .nil pass0 (pa_cons (pe_fld (pv 0) rfl) pa_nil))) pe_int (nomark _)))),?_⟩
    and_intros
    have go:∀ {Q':VK} {E:XK},Q' (.int (countD d m:Nat)) H → ∃ x x_2 x_3,H p = some (HO.ins x x_2 x_3) ∧ Cls K x ∧ NoAttr K x (Str.ofString "mark") ∧ ∃ x,List.lookup (Str.ofString "mark") x_3 = some x ∧ sp_many_of ad [V.ref q,x] H Q' E:=fun k2=>⟨ad.Has,dx,_,h,T.cl_Has,T.na_Has_mark,_,rfl,q,d,m,rfl,ht,k2⟩
    have k2:∃ i,V.int (countD d m:Nat) = V.int i ∧ Q (V.bl (decide (0 < i))) H:=⟨_,rfl,by rw [show decide ((0:Int) < ((countD d m:Nat):Int)) = decide (0 < countD d m) by apply decide_eq_decide.mpr; omega]; exact k'⟩
    exact th_pick ht (by decide +kernel) (by decide +kernel) (by decide +kernel) (by decide +kernel) (fun _ _ x y e1 e2=>⟨x,y,e1,e2,go k2⟩) (fun _ _ x y e1 e2=>⟨x,y,e1,e2,go k2⟩) (fun _ _ _ x y e1 e2=>⟨x,y,e1,e2,go k2⟩)
theorem ok_Many_init {f:Addr} {fd:FuncData} (F:Fun K "__init__" "Many.__init__" s_Many_init f fd) (T:Txt K mg ad):FnOk P w K mg base CX0 1 f fd ["self","number","mark"] (sp_Many_init ad):=by
  refine F.ok sc_Many_init (fun vs H Q E h=>?_) (fun cdv A outer s H vs Q E hr h=>?_)
  · obtain ⟨p,dx,i,m,rfl,_⟩:=h
    rfl
  · obtain ⟨p,dx,i,m,rfl,h,k⟩:=h
    refine ⟨_,(@pss_cons _ _ _ _ _ (ps_fld (pv 0) (pv 1) rfl)
      (@pss_one _ _ _ (ps_fld (pv 0) (pv 2) rfl))),?_⟩
    and_intros
    refine ⟨ad.Many,dx,[],h,T.cl_Many,T.na_Many_number,by decide,ad.Many,dx,_,upd_same,T.cl_Many,T.na_Many_mark,show 1 < 1000 by decide,?_⟩
    rw [upd_upd,show putF (Str.ofString "mark") (V.str m) (putF (Str.ofString "number") (V.int i) []) = [(Str.ofString "number",V.int i),(Str.ofString "mark",V.str m)] from putF2 (by decide +kernel)]
    exact k
theorem ok_Many_holds {f:Addr} {fd:FuncData} (F:Fun K "holds" "Many.holds" s_Many_holds f fd) (T:Txt K mg ad) {f_Thing_many_of:Addr} {fd_Thing_many_of:FuncData} (G_Thing_many_of:FnOk P w K mg base CX0 1 f_Thing_many_of fd_Thing_many_of ["self","mark"] (sp_many_of ad)) (B_Thing_many_of:Binds K fd_Thing_many_of ["self","mark"] []) (ME_Row_many_of:Meth K ad.Row "many_of" f_Thing_many_of) (ME_Forest_many_of:Meth K ad.Forest "many_of" f_Thing_many_of) (ME_Table_many_of:Meth K ad.Table "many_of" f_Thing_many_of):FnOk P w K mg base CX0 2 f fd ["self","thing"] (sp_Many_holds ad):=by
  refine F.ok sc_Many_holds (fun vs H Q E h=>?_) (fun cdv A outer s H vs Q E hr h=>?_)
  · obtain ⟨p,q,d,i0,m,rfl,_⟩:=h
    rfl
  · obtain ⟨p,q,d,i0,m,rfl,h,ok,ht,k⟩:=h
    unfold FtAt at h
    obtain ⟨a,dx,e,h⟩:=h
    cases e
    have k':=k H (Same.refl _)
    unfold holdsT at k'
    refine ⟨_,(@pss_one _ _ _ (ps_ret (pe_cmpR op_ge (pe_either (pe_either (pe_meth (pv 1) T.cl_Row ME_Row_many_of G_Thing_many_of (hr.mono (by decide)) B_Thing_many_of .nil pass0 (pa_cons (pe_fld (pv 0) rfl) pa_nil)) (pe_meth (pv 1) T.cl_Forest ME_Forest_many_of G_Thing_many_of (hr.mono (by decide)) B_Thing_many_of .nil pass0 (pa_cons (pe_fld (pv 0) rfl) pa_nil))) (pe_meth (pv 1) T.cl_Table ME_Table_many_of G_Thing_many_of (hr.mono (by decide)) B_Thing_many_of .nil pass0 (pa_cons (pe_fld (pv 0) rfl) pa_nil))) (pe_fld (pv 0) rfl) (nomark _)))),?_⟩
    and_intros
    have go:∀ {Q':VK} {E:XK},Q' (.int (countD d m:Nat)) H → ∃ x x_2 x_3,H p = some (HO.ins x x_2 x_3) ∧ Cls K x ∧ NoAttr K x (Str.ofString "mark") ∧ ∃ x,List.lookup (Str.ofString "mark") x_3 = some x ∧ sp_many_of ad [V.ref q,x] H Q' E:=fun k2=>⟨ad.Many,dx,_,h,T.cl_Many,T.na_Many_mark,_,lk2 (by decide +kernel),q,d,m,rfl,ht,k2⟩
    have k2:∃ x_4 x_5 x_6,H p = some (HO.ins x_4 x_5 x_6) ∧ Cls K x_4 ∧ NoAttr K x_4 (Str.ofString "number") ∧ ∃ x_7,List.lookup (Str.ofString "number") x_6 = some x_7 ∧ ∃ i,V.int (countD d m:Nat) = V.int i ∧ ∃ x,x_7 = V.int x ∧ Q (V.bl (decide (x ≤ i))) H:=⟨ad.Many,dx,_,h,T.cl_Many,T.na_Many_number,.int i0,by rw [List.lookup_cons,beq_self_eq_true],_,rfl,_,rfl,k'⟩
    exact th_pick ht (by decide +kernel) (by decide +kernel) (by decide +kernel) (by decide +kernel) (fun _ _ x y e1 e2=>⟨x,y,e1,e2,go k2⟩) (fun _ _ x y e1 e2=>⟨x,y,e1,e2,go k2⟩) (fun _ _ _ x y e1 e2=>⟨x,y,e1,e2,go k2⟩)
theorem ok_Pair_init {f:Addr} {fd:FuncData} (F:Fun K "__init__" "Pair.__init__" s_Pair_init f fd) (T:Txt K mg ad):FnOk P w K mg base CX0 1 f fd ["self","one","other"] (sp_Pair_init ad):=by
  refine F.ok sc_Pair_init (fun vs H Q E h=>?_) (fun cdv A outer s H vs Q E hr h=>?_)
  · obtain ⟨p,dx,w,a,b,rfl,_⟩:=h
    rfl
  · obtain ⟨p,dx,w,a,b,rfl,h,k⟩:=h
    have cl:Cls K (clsP ad w):=by
      unfold clsP
      split
      · exact T.cl_Before
      · split
        · exact T.cl_Under
        · exact T.cl_Beside
    have n1:NoAttr K (clsP ad w) "one":=by
      unfold clsP
      split
      · exact T.na_Before_one
      · split
        · exact T.na_Under_one
        · exact T.na_Beside_one
    have n2:NoAttr K (clsP ad w) "other":=by
      unfold clsP
      split
      · exact T.na_Before_other
      · split
        · exact T.na_Under_other
        · exact T.na_Beside_other
    refine ⟨_,(@pss_cons _ _ _ _ _ (ps_fld (pv 0) (pv 1) rfl)
      (@pss_one _ _ _ (ps_fld (pv 0) (pv 2) rfl))),?_⟩
    and_intros
    refine ⟨clsP ad w,dx,[],h,cl,n1,by decide,clsP ad w,dx,_,upd_same,cl,n2,show 1 < 1000 by decide,?_⟩
    rw [upd_upd,show putF (Str.ofString "other") (V.str b) (putF (Str.ofString "one") (V.str a) []) = [(Str.ofString "one",V.str a),(Str.ofString "other",V.str b)] from putF2 (by decide +kernel)]
    exact k
theorem ok_stands_ahead {f:Addr} {fd:FuncData} (D:Def K mg "stands_ahead" s_stands_ahead ["marks","one","other"] f fd) (T:Txt K mg ad):FnOk P w K mg base CX0 1 f fd ["marks","one","other"] (sp_stands_ahead K):=by
  refine D.F.ok sc_stands_ahead (fun vs H Q E h=>?_) (fun cdv A outer s H vs Q E hr h=>?_)
  · obtain ⟨t,xs,one,other,rfl,_⟩:=h
    rfl
  · obtain ⟨t,xs,one,other,rfl,hq,hm,k⟩:=h
    refine ⟨_,(@pss_cons _ _ _ _ _ (ps_set (i:=3) sc_stands_ahead.nd rfl (Or.inl rfl) pe_bl)
      (@pss_cons _ _ _ _ _ (ps_for PassesOwn.never rfl (pi_either (pi_list (pv 0)) (pi_tup (pv 0))) (pg_name (i:=4) sc_stands_ahead.nd rfl (Or.inl rfl))
      (@pss_cons _ _ _ _ _ (ps_if (PW.pt (pw_and (pt_val (pv 3)) (pw_and1 (pt_cmpR op_eq (pv 4) (pv 2) (nomark _)))))
      (@pss_one _ _ _ (ps_ret pe_bl))
      pss_nil)
      (@pss_one _ _ _ (ps_if (pt_cmpR op_eq (pv 4) (pv 1) (nomark _))
      (@pss_one _ _ _ (ps_set (i:=3) sc_stands_ahead.nd rfl (Or.inl rfl) pe_bl))
      pss_nil))))
      (@pss_one _ _ _ (ps_ret pe_bl)))),?_⟩
    refine tseq_open fun B hB=>?_
    and_intros
    subst hB
    refine tseq_open fun B hB=>?_
    refine (show tFor _ _ _ _ _ _ from ?_)
    unfold tFor
    rcases hq with hq | hq
    · refine .inl ⟨_,rfl,t,rfl,⟨_,hq⟩,for_list (xs:=xs) (fun i σ H'=>H' = H ∧ ∃ o5:Option V,aheadB one other (xs.take i) = false ∧ StIs σ [some (.ref t),some (.str one),some (.str other),some (.bl ((xs.take i).any (isM one))),o5]) ⟨rfl,none,rfl,StIs.rfl⟩ (fun i σ H' _ ⟨e,_⟩=>e ▸ hq) ?_ ?_⟩
      · rintro i x σ H' hx ⟨rfl,o5,ha,rfl⟩
        obtain ⟨z,rfl⟩:=mark_str (List.all_eq_true.mp hm x (List.mem_of_getElem? hx))
        have e:xs.take (i + 1) = xs.take i ++ [.str z]:=by rw [List.take_add_one,hx]; rfl
        have f:aheadB one other (xs.take (i + 1)) = ((xs.take i).any (isM one) && isM other (.str z)):=by
          rw [e,aheadB_append,ha]
          simp [aheadB]
        have g:(xs.take (i + 1)).any (isM one) = ((xs.take i).any (isM one) || isM one (.str z)):=by rw [e,List.any_append]; simp
        have up:aheadB one other (xs.take (i + 1)) = true → aheadB one other xs = true:=fun q=>by
          rw [← List.take_append_drop (i + 1) xs,aheadB_append,q]
          simp
        have em:∀ m:Str,isM m (.str z) = decide (z = m):=fun m=>by
          show (z == m) = decide (z = m)
          by_cases h:z = m <;> simp [h]
        and_intros
        rw [em] at f g
        generalize (xs.take i).any (isM one) = seen at f g ⊢
        generalize (xs.take (i + 1)).any (isM one) = seen' at g ⊢
        have fin:aheadB one other (xs.take (i + 1)) = false → (if z = one then aheadB one other (xs.take (i + 1)) = false ∧ ∃ x,StIs [some (V.ref t),some (V.str one),some (V.str other),some (V.bl true),some (V.str z)] [some (V.ref t),some (V.str one),some (V.str other),some (V.bl seen'),x] else aheadB one other (xs.take (i + 1)) = false ∧ ∃ x,StIs [some (V.ref t),some (V.str one),some (V.str other),some (V.bl seen),some (V.str z)] [some (V.ref t),some (V.str one),some (V.str other),some (V.bl seen'),x]):=fun f'=>by
          by_cases h1:z = one
          · rw [if_pos h1,g,decide_eq_true h1,Bool.or_true]; exact ⟨f',_,StIs.rfl⟩
          · rw [if_neg h1,g,decide_eq_false h1,Bool.or_false]; exact ⟨f',_,StIs.rfl⟩
        by_cases h2:z = other
        · cases seen
          · rw [if_neg (by decide)]
            exact fin (by rw [f]; rfl)
          · rw [if_pos rfl,if_pos h2]
            rw [up (by rw [f,decide_eq_true h2]; rfl)] at k
            exact k
        · cases seen
          · rw [if_neg (by decide)]
            exact fin (by rw [f]; rfl)
          · rw [if_pos rfl,if_neg h2]
            exact fin (by rw [f,decide_eq_false h2]; rfl)
      · rintro σ H' ⟨rfl,o5,ha,rfl⟩
        dsimp only
        subst hB
        and_intros
        rw [List.take_length] at ha
        rw [ha] at k
        exact k
    · refine .inr ⟨_,rfl,t,rfl,⟨_,hq⟩,for_tup (xs:=xs) (fun i σ H'=>H' = H ∧ ∃ o5:Option V,aheadB one other (xs.take i) = false ∧ StIs σ [some (.ref t),some (.str one),some (.str other),some (.bl ((xs.take i).any (isM one))),o5]) ⟨rfl,none,rfl,StIs.rfl⟩ (fun i σ H' _ ⟨e,_⟩=>e ▸ hq) ?_ ?_⟩
      · rintro i x σ H' hx ⟨rfl,o5,ha,rfl⟩
        obtain ⟨z,rfl⟩:=mark_str (List.all_eq_true.mp hm x (List.mem_of_getElem? hx))
        have e:xs.take (i + 1) = xs.take i ++ [.str z]:=by rw [List.take_add_one,hx]; rfl
        have f:aheadB one other (xs.take (i + 1)) = ((xs.take i).any (isM one) && isM other (.str z)):=by
          rw [e,aheadB_append,ha]
          simp [aheadB]
        have g:(xs.take (i + 1)).any (isM one) = ((xs.take i).any (isM one) || isM one (.str z)):=by rw [e,List.any_append]; simp
        have up:aheadB one other (xs.take (i + 1)) = true → aheadB one other xs = true:=fun q=>by
          rw [← List.take_append_drop (i + 1) xs,aheadB_append,q]
          simp
        have em:∀ m:Str,isM m (.str z) = decide (z = m):=fun m=>by
          show (z == m) = decide (z = m)
          by_cases h:z = m <;> simp [h]
        and_intros
        rw [em] at f g
        generalize (xs.take i).any (isM one) = seen at f g ⊢
        generalize (xs.take (i + 1)).any (isM one) = seen' at g ⊢
        have fin:aheadB one other (xs.take (i + 1)) = false → (if z = one then aheadB one other (xs.take (i + 1)) = false ∧ ∃ x,StIs [some (V.ref t),some (V.str one),some (V.str other),some (V.bl true),some (V.str z)] [some (V.ref t),some (V.str one),some (V.str other),some (V.bl seen'),x] else aheadB one other (xs.take (i + 1)) = false ∧ ∃ x,StIs [some (V.ref t),some (V.str one),some (V.str other),some (V.bl seen),some (V.str z)] [some (V.ref t),some (V.str one),some (V.str other),some (V.bl seen'),x]):=fun f'=>by
          by_cases h1:z = one
          · rw [if_pos h1,g,decide_eq_true h1,Bool.or_true]; exact ⟨f',_,StIs.rfl⟩
          · rw [if_neg h1,g,decide_eq_false h1,Bool.or_false]; exact ⟨f',_,StIs.rfl⟩
        by_cases h2:z = other
        · cases seen
          · rw [if_neg (by decide)]
            exact fin (by rw [f]; rfl)
          · rw [if_pos rfl,if_pos h2]
            rw [up (by rw [f,decide_eq_true h2]; rfl)] at k
            exact k
        · cases seen
          · rw [if_neg (by decide)]
            exact fin (by rw [f]; rfl)
          · rw [if_pos rfl,if_neg h2]
            exact fin (by rw [f,decide_eq_false h2]; rfl)
      · rintro σ H' ⟨rfl,o5,ha,rfl⟩
        dsimp only
        subst hB
        and_intros
        rw [List.take_length] at ha
        rw [ha] at k
        exact k
theorem ok_Thing_is_before {f:Addr} {fd:FuncData} (F:Fun K "is_before" "Thing.is_before" s_Thing_is_before f fd) (T:Txt K mg ad) {f_stands_ahead:Addr} {fd_stands_ahead:FuncData} (G_stands_ahead:FnOk P w K mg base CX0 1 f_stands_ahead fd_stands_ahead ["marks","one","other"] (sp_stands_ahead K)) (D_stands_ahead:Def K mg "stands_ahead" s_stands_ahead ["marks","one","other"] f_stands_ahead fd_stands_ahead):FnOk P w K mg base CX0 2 f fd ["self","one","other"] (sp_is_before ad):=by
  refine F.ok sc_Thing_is_before (fun vs H Q E h=>?_) (fun cdv A outer s H vs Q E hr h=>?_)
  · obtain ⟨p,d,one,other,rfl,_⟩:=h
    rfl
  · obtain ⟨p,d,one,other,rfl,h,k⟩:=h
    refine ⟨_,(@pss_one _ _ _ (ps_ret (pe_call G_stands_ahead (hr.mono (by decide)) rfl D_stands_ahead.mg D_stands_ahead.F.kp D_stands_ahead.b .nil pass0 (pa_cons (pe_fld (pv 0) rfl) (pa_cons (pv 1) (pa_cons (pv 2) pa_nil)))))),?_⟩
    and_intros
    cases d with
    | row xs =>
      obtain ⟨dx,t,h1,h2,h3,h4⟩:=h
      exact ⟨ad.Row,dx,_,h1,T.cl_Row,T.na_Row_spot_marks,.ref t,rfl,t,xs,one,other,rfl,.inr h2.sq,h3,k⟩
    | forest ns =>
      obtain ⟨⟨dx,t1,t2,xs,h1,h2,h3,h4⟩,h5,_⟩:=h
      refine ⟨ad.Forest,dx,_,h1,T.cl_Forest,T.na_Forest_spot_marks,.ref t1,rfl,t1,_,one,other,rfl,.inr h2.sq,?_,k⟩
      rw [List.all_map,List.all_eq_true]
      intro n hn
      exact (depthOk_all h5 n hn).1
    | table ls w =>
      obtain ⟨dx,t1,t2,ts,h1,h2,h3,h4,h5,h6,h7⟩:=h
      exact ⟨ad.Table,dx,_,h1,T.cl_Table,T.na_Table_spot_marks,.ref t1,rfl,t1,_,one,other,rfl,.inr h2.sq,flat_marks fun l hl=>(h7 l hl).2,k⟩
theorem ok_Before_holds {f:Addr} {fd:FuncData} (F:Fun K "holds" "Before.holds" s_Before_holds f fd) (T:Txt K mg ad) {f_Thing_is_before:Addr} {fd_Thing_is_before:FuncData} (G_Thing_is_before:FnOk P w K mg base CX0 2 f_Thing_is_before fd_Thing_is_before ["self","one","other"] (sp_is_before ad)) (B_Thing_is_before:Binds K fd_Thing_is_before ["self","one","other"] []) (ME_Row_is_before:Meth K ad.Row "is_before" f_Thing_is_before) (ME_Forest_is_before:Meth K ad.Forest "is_before" f_Thing_is_before) (ME_Table_is_before:Meth K ad.Table "is_before" f_Thing_is_before):FnOk P w K mg base CX0 3 f fd ["self","thing"] (sp_Before_holds ad):=by
  refine F.ok sc_Before_holds (fun vs H Q E h=>?_) (fun cdv A outer s H vs Q E hr h=>?_)
  · obtain ⟨p,q,d,a,b,rfl,_⟩:=h
    rfl
  · obtain ⟨p,q,d,a,b,rfl,h,ok,ht,k⟩:=h
    unfold FtAt at h
    obtain ⟨a',dx,e,h⟩:=h
    cases e
    rw [show clsP ad "before" = ad.Before from if_pos rfl] at h
    unfold okT at ok
    have k':∀ H',Same H H' → Q (.bl (relD d "before" a b)) H':=fun H' s'=>by have:=k H' s'; unfold holdsT at this; exact this
    rw [show relD d "before" a b = aheadB a b (spotsD d) from if_pos rfl] at k'
    refine ⟨_,(@pss_one _ _ _ (ps_ret (pe_either (pe_either (pe_meth (pv 1) T.cl_Row ME_Row_is_before G_Thing_is_before (hr.mono (by decide)) B_Thing_is_before .nil pass0 (pa_cons (pe_fld (pv 0) rfl) (pa_cons (pe_fld (pv 0) rfl) pa_nil))) (pe_meth (pv 1) T.cl_Forest ME_Forest_is_before G_Thing_is_before (hr.mono (by decide)) B_Thing_is_before .nil pass0 (pa_cons (pe_fld (pv 0) rfl) (pa_cons (pe_fld (pv 0) rfl) pa_nil)))) (pe_meth (pv 1) T.cl_Table ME_Table_is_before G_Thing_is_before (hr.mono (by decide)) B_Thing_is_before .nil pass0 (pa_cons (pe_fld (pv 0) rfl) (pa_cons (pe_fld (pv 0) rfl) pa_nil)))))),?_⟩
    and_intros
    have go:∀ {R:V → V → Prop},R (.str a) (.str b) → ∃ x x_2 x_3,H p = some (HO.ins x x_2 x_3) ∧ Cls K x ∧ NoAttr K x (Str.ofString "one") ∧ ∃ x,List.lookup (Str.ofString "one") x_3 = some x ∧ ∃ x_4 x_5 x_6,H p = some (HO.ins x_4 x_5 x_6) ∧ Cls K x_4 ∧ NoAttr K x_4 (Str.ofString "other") ∧ ∃ x_7,List.lookup (Str.ofString "other") x_6 = some x_7 ∧ R x x_7 :=
      fun r=>⟨ad.Before,dx,_,h,T.cl_Before,T.na_Before_one,.str a,by rw [List.lookup_cons,beq_self_eq_true],ad.Before,dx,_,h,T.cl_Before,T.na_Before_other,.str b,lk2 (by decide +kernel),r⟩
    exact th_pick ht (by decide +kernel) (by decide +kernel) (by decide +kernel) (by decide +kernel) (fun xs ed x y e1 e2=>⟨x,y,e1,e2,go (R:=fun u v=>sp_is_before ad [.ref q,u,v] H Q E0) ⟨q,d,a,b,rfl,ht,k' H (Same.refl _)⟩⟩) (fun ns ed x y e1 e2=>⟨x,y,e1,e2,go (R:=fun u v=>sp_is_before ad [.ref q,u,v] H Q E0) ⟨q,d,a,b,rfl,ht,k' H (Same.refl _)⟩⟩) (fun ls w ed x y e1 e2=>⟨x,y,e1,e2,go (R:=fun u v=>sp_is_before ad [.ref q,u,v] H Q E0) ⟨q,d,a,b,rfl,ht,k' H (Same.refl _)⟩⟩)
theorem ok_Row_is_under {f:Addr} {fd:FuncData} (F:Fun K "is_under" "Row.is_under" s_Row_is_under f fd) (T:Txt K mg ad):FnOk P w K mg base CX0 1 f fd ["self","one","other"] sp_Row_is_under:=by
  refine F.ok sc_Row_is_under (fun vs H Q E h=>?_) (fun cdv A outer s H vs Q E hr h=>?_)
  · obtain ⟨p,a,b,rfl,_⟩:=h
    rfl
  · obtain ⟨p,a,b,rfl,k⟩:=h
    refine ⟨_,(@pss_one _ _ _ (ps_ret pe_bl)),?_⟩
    and_intros
    exact k
theorem ok_places_of {f:Addr} {fd:FuncData} (D:Def K mg "places_of" s_places_of ["marks","mark"] f fd) (T:Txt K mg ad):FnOk P w K mg base CX0 1 f fd ["marks","mark"] (sp_places_of K):=by
  refine D.F.ok sc_places_of (fun vs H Q E h=>?_) (fun cdv A outer s H vs Q E hr h=>?_)
  · obtain ⟨t,xs,m,rfl,_⟩:=h
    rfl
  · obtain ⟨t,xs,m,rfl,hq,hm,hl,k⟩:=h
    refine ⟨_,(@pss_one _ _ _ (ps_ret (pe_comp (own:=["place","found"]) (cap:=["mark"]) (ix:=[1]) rfl (show CompScope ["marks","mark"] (defScope s_places_of) _ ["place","found"] ["mark"] [1] from ⟨rfl,by decide +kernel,by decide +kernel,by decide +kernel,by decide +kernel,by decide +kernel,by decide +kernel,rfl,by decide +kernel⟩) (pi_enumT rfl T.enumerate (pa_cons (pv 0) pa_nil)) (fun C s₀ H₀ ex pn=>⟨(show PG _ _ (gTup K 2 (gCons (gName 0) (gCons (gName 1) gNil))) from pg_two (i:=0) (j:=1) rfl (show (["place","found","mark"]:List Str).Nodup by decide +kernel) rfl rfl (Or.inl rfl) (Or.inl rfl)),(pifs_one (pt_cmpR op_eq (pv 1) (pv 2) (nomark _))),(pv 0)⟩)))),?_⟩
    and_intros
    refine tcomp_enumT (K:=K) (a:=t) (xs:=xs) (H1:=H) (fun R rr=>⟨_,rfl,t,rfl,⟨_,hq⟩,rr⟩) (fun i ys H'=>Same H H' ∧ ys = (idxs (isM m) 0 (xs.take i)).map V.int) ⟨Same.refl _,rfl⟩ (fun i ys H' _ ⟨e,_⟩=>SqT.same e hq) ?_ ?_
    · rintro i x ys H' T' R hx ⟨s1,rfl⟩ hT hR
      obtain ⟨z,rfl⟩:=mark_str (List.all_eq_true.mp hm x (List.mem_of_getElem? hx))
      have hi:=(List.getElem?_eq_some_iff.mp hx).1
      have e:=idxs_take (P:=isM m) hx
      and_intros
      have l1:((idxs (isM m) 0 (xs.take i)).map V.int).length < sizeLine:=by
        rw [List.length_map]
        have e1:=idxs_le (isM m) (xs.take i) 0
        rw [List.length_take] at e1
        exact small1000 (by omega)
      have em:isM m (.str z) = decide (z = m):=by
        show (z == m) = decide (z = m)
        by_cases h:z = m <;> simp [h]
      rw [em] at e
      by_cases hz:z = m
      · rw [if_pos hz]
        rw [if_pos (decide_eq_true hz)] at e
        exact ⟨l1,hR _ _ ⟨s1.upd hT,by rw [e,List.map_append]; rfl⟩⟩
      · rw [if_neg hz]
        rw [if_neg (by simp [hz]),List.append_nil] at e
        exact hR _ _ ⟨s1.upd hT,by rw [e]⟩
    · rintro ys H' ⟨s1,rfl⟩
      rw [List.take_length]
      exact ⟨by rw [List.length_map]; have:=idxs_le (isM m) xs 0; exact Nat.le_of_lt (small1000 (by omega)),fun D hD=>k D _ (Same.none s1 hD) (s1.upd hD) upd_same⟩
theorem ok_Forest_standing {f:Addr} {fd:FuncData} (F:Fun K "standing" "Forest.standing" s_Forest_standing f fd) (T:Txt K mg ad) {f_places_of:Addr} {fd_places_of:FuncData} (G_places_of:FnOk P w K mg base CX0 1 f_places_of fd_places_of ["marks","mark"] (sp_places_of K)) (D_places_of:Def K mg "places_of" s_places_of ["marks","mark"] f_places_of fd_places_of):FnOk P w K mg base CX0 2 f fd ["self","mark"] (sp_Forest_standing ad):=by
  refine F.ok sc_Forest_standing (fun vs H Q E h=>?_) (fun cdv A outer s H vs Q E hr h=>?_)
  · obtain ⟨p,ns,m,rfl,_⟩:=h
    rfl
  · obtain ⟨p,ns,m,rfl,⟨⟨dx,t1,t2,xs,h1,h2,h3,h4⟩,h5,h6⟩,k⟩:=h
    refine ⟨_,(@pss_one _ _ _ (ps_ret (pe_call G_places_of (hr.mono (by decide)) rfl D_places_of.mg D_places_of.F.kp D_places_of.b .nil pass0 (pa_cons (pe_fld (pv 0) rfl) (pa_cons (pv 1) pa_nil))))),?_⟩
    and_intros
    refine ⟨ad.Forest,dx,_,h1,T.cl_Forest,T.na_Forest_spot_marks,.ref t1,rfl,t1,_,m,rfl,h2.sq,?_,by rw [List.length_map]; omega,k⟩
    rw [List.all_map,List.all_eq_true]
    intro n hn
    exact (depthOk_all h5 n hn).1
theorem ok_marks_at {f:Addr} {fd:FuncData} (D:Def K mg "marks_at" s_marks_at ["marks","places"] f fd) (T:Txt K mg ad):FnOk P w K mg base CX0 1 f fd ["marks","places"] (sp_marks_at K):=by
  refine D.F.ok sc_marks_at (fun vs H Q E h=>?_) (fun cdv A outer s H vs Q E hr h=>?_)
  · obtain ⟨t,a,xs,ps,rfl,_⟩:=h
    rfl
  · obtain ⟨t,a,xs,ps,rfl,ht,ha,hps,hl,k⟩:=h
    refine ⟨_,(@pss_one _ _ _ (ps_ret (pe_comp (own:=["place"]) (cap:=["marks"]) (ix:=[0]) rfl (show CompScope ["marks","places"] (defScope s_marks_at) _ ["place"] ["marks"] [0] from ⟨rfl,by decide +kernel,by decide +kernel,by decide +kernel,by decide +kernel,by decide +kernel,by decide +kernel,rfl,by decide +kernel⟩) (pi_list (pv 1)) (fun C s₀ H₀ ex pn=>⟨pg_name (i:=0) (show (["place","marks"]:List Str).Nodup by decide +kernel) rfl (Or.inl rfl),pifs_nil,(pe_ix (show IxR _ (rIxT K) from ix_tup) (pv 1) (pv 0) (fun _ _=>rfl))⟩)))),?_⟩
    and_intros
    refine tcomp_list (a:=a) (xs:=ps.map V.int) (H1:=H) (fun R rr=>⟨_,rfl,a,rfl,⟨_,SqL.of ha⟩,rr⟩) (fun i ys H'=>H' = H ∧ ys = (ps.take i).map fun p=>xs.getD p.toNat .non) ⟨rfl,rfl⟩ (fun i ys H' _ ⟨e,_⟩=>e ▸ SqL.of ha) ?_ ?_
    · rintro i x ys H' R hx ⟨rfl,rfl⟩ hR
      rw [List.getElem?_map] at hx
      obtain ⟨p,ep,rfl⟩:=Option.map_eq_some_iff.mp hx
      obtain ⟨p0,p1⟩:=hps p (List.mem_of_getElem? ep)
      simp only [tYes]
      and_intros
      obtain ⟨pn,rfl⟩:=Int.eq_ofNat_of_zero_le p0
      have hpn:pn < xs.length:=by omega
      refine ⟨_,ht,xs[pn],atI_nat (List.getElem?_eq_getElem hpn),?_,hR _ _ ⟨rfl,?_⟩⟩
      · rw [List.length_map,List.length_take]; exact small1000 (by omega)
      · rw [List.take_add_one,ep,List.map_append]
        congr 1
        simp only [Option.toList,List.map_cons,List.map_nil,Int.toNat_natCast,List.getD_eq_getElem?_getD,List.getElem?_eq_getElem hpn,Option.getD_some]
    · rintro ys H' ⟨rfl,rfl⟩
      rw [show (ps.map V.int).length = ps.length from List.length_map _,List.take_length]
      exact ⟨by rw [List.length_map]; exact Nat.le_of_lt (small1000 (by omega)),k⟩
theorem ok_Forest_many {f:Addr} {fd:FuncData} (F:Fun K "many" "Forest.many" s_Forest_many f fd) (T:Txt K mg ad):FnOk P w K mg base CX0 1 f fd ["self"] (sp_many ad):=by
  refine F.ok sc_Forest_many (fun vs H Q E h=>?_) (fun cdv A outer s H vs Q E hr h=>?_)
  · obtain ⟨p,ns,rfl,_⟩:=h
    rfl
  · obtain ⟨p,ns,rfl,⟨dx,t1,t2,xs,h1,h2,h3,h4⟩,k⟩:=h
    refine ⟨_,(@pss_one _ _ _ (ps_ret (pe_callB call_lenT rfl T.len PySem.boot_len (pa_cons (pe_fld (pv 0) rfl) pa_nil)))),?_⟩
    and_intros
    refine ⟨ad.Forest,dx,_,h1,T.cl_Forest,T.na_Forest_nodes,.ref t2,lookup2 (by decide +kernel),t2,rfl,_,SqT.of h3,?_⟩
    rw [h4.length]
    exact k
theorem ok_Forest_hanging {f:Addr} {fd:FuncData} (F:Fun K "hanging" "Forest.hanging" s_Forest_hanging f fd) (T:Txt K mg ad) {f_Forest_many:Addr} {fd_Forest_many:FuncData} (G_Forest_many:FnOk P w K mg base CX0 1 f_Forest_many fd_Forest_many ["self"] (sp_many ad)) (B_Forest_many:Binds K fd_Forest_many ["self"] []) (ME_Forest_many:Meth K ad.Forest "many" f_Forest_many):FnOk P w K mg base CX0 2 f fd ["self","place"] (sp_Forest_hanging ad):=by
  refine F.ok sc_Forest_hanging (fun vs H Q E h=>?_) (fun cdv A outer s H vs Q E hr h=>?_)
  · obtain ⟨p,ns,k0,rfl,_⟩:=h
    rfl
  · obtain ⟨p,ns,k0,rfl,ho,hk,k⟩:=h
    refine ⟨_,(@pss_cons _ _ _ _ _ (ps_set (i:=2) sc_Forest_hanging.nd rfl (Or.inl rfl) (pe_op op_add (pv 1) pe_int))
      (@pss_cons _ _ _ _ _ (ps_while PassesOwn.never (PW.pt (pw_and (pt_cmpR op_lt (pv 2) (pe_meth0 (pv 0) T.cl_Forest ME_Forest_many G_Forest_many (hr.mono (by decide)) B_Forest_many .nil pass0) (nomark _)) (pw_and1 (pt_cmpR op_gt (pe_ix ix_tup (pe_ix ix_tup (pe_fld (pv 0) rfl) (pv 2) (fun _ _=>rfl)) pe_int (fun _ _=>rfl)) (pe_ix ix_tup (pe_ix ix_tup (pe_fld (pv 0) rfl) (pv 1) (fun _ _=>rfl)) pe_int (fun _ _=>rfl)) (nomark _)))))
      (@pss_one _ _ _ (ps_aug (i:=2) sc_Forest_hanging.nd rfl (Or.inl rfl) pe_int ip_add)))
      (@pss_one _ _ _ (ps_ret (pe_callTy (call_listR rfl) rfl T.list PyProof.Rows.boot_list (pa_cons (pe_callTy call_rangeV2 rfl T.range PyProof.Rows.boot_range (pa_cons (pv 1) (pa_cons (pv 2) pa_nil))) pa_nil)))))),?_⟩
    obtain ⟨hp,hd,hl⟩:=id ho
    obtain ⟨dx,t1,t2,xs,h1,h2,h3,h4⟩:=id hp
    have hlen:=h4.length
    refine tseq_open fun B hB=>?_
    and_intros
    subst hB
    refine tseq_open fun B hB=>?_
    and_intros
    have hkn:ns[k0]? = some ns[k0]:=List.getElem?_eq_getElem hk
    have eD:(ns.getD k0 ("",0)).2 = ns[k0].2:=by rw [List.getD_eq_getElem?_getD,hkn]; rfl
    have tl:=tail_le ns k0
    obtain ⟨n0,en0,t0,ex0,ht0⟩:=h4.get (List.getElem?_eq_getElem (by omega:k0 < xs.length))
    have e0:atI xs (k0:Int) = some (.ref t0):=by rw [← ex0]; exact atI_nat (List.getElem?_eq_getElem (by omega))
    rw [hkn] at en0
    cases en0
    refine ⟨fun m σ H'=>H' = H ∧ ∃ j:Nat,j + m = tailN ns k0 ∧ StIs σ [some (.ref p),some (.int (k0:Nat)),some (.int ((k0:Int) + 1 + (j:Int)))],⟨tailN ns k0,rfl,0,by omega,by rw [show (k0:Int) + 1 + ((0:Nat):Int) = (k0:Int) + 1 by omega]; exact StIs.rfl⟩,?_⟩
    rintro m σ H' ⟨rfl,j,hj,rfl⟩
    and_intros
    refine ⟨dx,_,h1,lookup_no (by decide +kernel) (by decide +kernel),p,ns,rfl,hp,?_⟩
    have fin:j = tailN ns k0 → B ({ nx:=fun _ H'=>Q .non H',rt:=Q }:Ends) [some (.ref p),some (.int (k0:Nat)),some (.int ((k0:Int) + 1 + (j:Int)))] H':=fun e=>by
      subst hB
      and_intros
      intro r hr'
      refine ⟨k0,(k0:Int) + 1 + (j:Int),upd_same,by omega,by omega,by omega,by omega,by omega,fun l hl'=>?_⟩
      rw [show ((k0:Int) + 1 + (j:Int) - (k0:Int)).toNat = tailN ns k0 + 1 by omega]
      exact k l _ (Same.none (Same.put hr') hl') ((Same.put hr').upd hl') upd_same
    have nd:∃ x,List.lookup (Str.ofString "nodes") [(Str.ofString "spot_marks",V.ref t1),(Str.ofString "nodes",V.ref t2)] = some x ∧ x = .ref t2:=⟨.ref t2,lookup2 (by decide +kernel),rfl⟩
    refine ⟨_,rfl,ite2 (fun hlt=>?_) fun hge=>fin (by omega)⟩
    have hlt':k0 + 1 + j < ns.length:=by omega
    obtain ⟨n1,en1,t',ex1,ht1⟩:=h4.get (List.getElem?_eq_getElem (by omega:k0 + 1 + j < xs.length))
    have e1:atI xs ((k0:Int) + 1 + (j:Int)) = some (.ref t'):=by
      rw [show (k0:Int) + 1 + (j:Int) = ((k0 + 1 + j:Nat):Int) by omega,← ex1]
      exact atI_nat (List.getElem?_eq_getElem (by omega))
    refine ⟨ad.Forest,dx,_,h1,T.cl_Forest,T.na_Forest_nodes,.ref t2,lookup2 (by decide +kernel),t2,rfl,xs,SqT.of h3,_,e1,t',rfl,_,SqT.of ht1,_,rfl,ad.Forest,dx,_,h1,T.cl_Forest,T.na_Forest_nodes,.ref t2,lookup2 (by decide +kernel),t2,rfl,xs,SqT.of h3,_,e0,t0,rfl,_,SqT.of ht0,_,rfl,n1.2,rfl,ns[k0].2,rfl,ite2 (fun hd1=>?_) fun hd1=>fin ?_⟩
    · have hjt:j < tailN ns k0:=by
        rcases Nat.lt_or_ge j (tailN ns k0) with h | h
        · exact h
        · have:j = tailN ns k0:=by omega
          rw [this] at en1
          exact absurd (by rw [eD]; exact hd1) (tail_stop en1)
      refine ⟨fun σ' H1=>H1 = H' ∧ StIs σ' [some (.ref p),some (.int (k0:Nat)),some (.int ((k0:Int) + 1 + ((j + 1:Nat):Int)))],fun σ' H1 ⟨e2,e3⟩=>⟨m - 1,by omega,e2,j + 1,by omega,e3⟩,?_⟩
      and_intros
      rw [show (k0:Int) + 1 + (j:Int) + 1 = (k0:Int) + 1 + ((j + 1:Nat):Int) by omega]
      exact StIs.rfl
    · rcases Nat.lt_or_ge j (tailN ns k0) with h | h
      · obtain ⟨n2,en2,h2'⟩:=tail_lt h
        rw [en1] at en2
        cases en2
        rw [eD] at h2'
        exact absurd h2' hd1
      · omega
theorem ok_Forest_is_under {f:Addr} {fd:FuncData} (F:Fun K "is_under" "Forest.is_under" s_Forest_is_under f fd) (T:Txt K mg ad) {f_Forest_standing:Addr} {fd_Forest_standing:FuncData} (G_Forest_standing:FnOk P w K mg base CX0 2 f_Forest_standing fd_Forest_standing ["self","mark"] (sp_Forest_standing ad)) {f_marks_at:Addr} {fd_marks_at:FuncData} (G_marks_at:FnOk P w K mg base CX0 1 f_marks_at fd_marks_at ["marks","places"] (sp_marks_at K)) {f_Forest_hanging:Addr} {fd_Forest_hanging:FuncData} (G_Forest_hanging:FnOk P w K mg base CX0 2 f_Forest_hanging fd_Forest_hanging ["self","place"] (sp_Forest_hanging ad)) (D_marks_at:Def K mg "marks_at" s_marks_at ["marks","places"] f_marks_at fd_marks_at) (B_Forest_standing:Binds K fd_Forest_standing ["self","mark"] []) (B_Forest_hanging:Binds K fd_Forest_hanging ["self","place"] []) (ME_Forest_standing:Meth K ad.Forest "standing" f_Forest_standing) (ME_Forest_hanging:Meth K ad.Forest "hanging" f_Forest_hanging):FnOk P w K mg base CX0 3 f fd ["self","one","other"] (sp_Forest_is_under ad):=by
  refine F.ok sc_Forest_is_under (fun vs H Q E h=>?_) (fun cdv A outer s H vs Q E hr h=>?_)
  · obtain ⟨p,ns,one,other,rfl,_⟩:=h
    rfl
  · obtain ⟨p,ns,one,other,rfl,ho,k⟩:=h
    refine ⟨_,(@pss_cons _ _ _ _ _ (ps_for PassesOwn.never rfl (pi_list (pe_meth (pv 0) T.cl_Forest ME_Forest_standing G_Forest_standing (hr.mono (by decide)) B_Forest_standing .nil pass0 (pa_cons (pv 1) pa_nil))) (pg_name (i:=3) sc_Forest_is_under.nd rfl (Or.inl rfl))
      (@pss_one _ _ _ (ps_if (pt_cmpR op_in_seq (pv 2) (pe_call G_marks_at (hr.mono (by decide)) rfl D_marks_at.mg D_marks_at.F.kp D_marks_at.b .nil pass0 (pa_cons (pe_fld (pv 0) rfl) (pa_cons (pe_slice sl_list (pe_meth (pv 0) T.cl_Forest ME_Forest_hanging G_Forest_hanging (hr.mono (by decide)) B_Forest_hanging .nil pass0 (pa_cons (pv 3) pa_nil)) (po_some pe_int) po_none) pa_nil))) rfl)
      (@pss_one _ _ _ (ps_ret pe_bl))
      pss_nil)))
      (@pss_one _ _ _ (ps_ret pe_bl))),?_⟩
    obtain ⟨hp,hd,hl⟩:=id ho
    obtain ⟨dx,t1,t2,xs,h1,h2,h3,h4⟩:=id hp
    have hlen:=h4.length
    refine tseq_open fun B hB=>?_
    refine (show tFor _ _ _ _ _ _ from ?_)
    unfold tFor
    refine split_it (fun J H1=>∃ l,Same H H1 ∧ H1 l = some (.lst ((idxs (isM one) 0 (namesN ns)).map V.int)) ∧ J = Itl K l) (fun G' hG=>?_) ?_
    · and_intros
      exact ⟨dx,_,h1,lookup_no (by decide +kernel) (by decide +kernel),p,ns,one,rfl,ho,fun l H1 _ s1 h=>⟨l,rfl,⟨_,SqL.of h⟩,hG _ _ ⟨l,s1,h,rfl⟩⟩⟩
    rintro _ H1 ⟨l,s1,hl1,rfl⟩
    refine for_list (xs:=(idxs (isM one) 0 (namesN ns)).map V.int) (fun i σ H'=>Same H1 H' ∧ (((idxs (isM one) 0 (namesN ns)).take i).any fun p=>inV (.str other) (((hangN ns p.toNat).drop 1).map fun q=>(namesN ns).getD q.toNat .non)) = false ∧ ∃ o3:Option V,StIs σ [some (.ref p),some (.str one),some (.str other),o3]) ⟨Same.refl _,rfl,none,StIs.rfl⟩ (fun i σ H' _ ⟨e,_⟩=>SqL.of (e _ _ hl1)) ?_ ?_
    · rintro i x σ H' hx ⟨s2,hf,o3,rfl⟩
      obtain ⟨q,hq,rfl⟩:=Option.map_eq_some_iff.mp (List.getElem?_map .. ▸ hx)
      obtain ⟨n,y,eq1,hx1,_⟩:=mem_idxs.mp (List.mem_of_getElem? hq)
      rw [Nat.zero_add] at eq1
      subst eq1
      have hn:n < ns.length:=by
        have:=(List.getElem?_eq_some_iff.mp hx1).1
        unfold namesN at this
        rwa [List.length_map] at this
      have tl:=tail_le ns n
      have s12:=s1.trans s2
      and_intros
      refine ⟨ad.Forest,dx,_,s12 _ _ h1,T.cl_Forest,T.na_Forest_spot_marks,.ref t1,rfl,dx,_,s12 _ _ h1,lookup_no (by decide +kernel) (by decide +kernel),p,ns,n,rfl,ho.same s12,hn,fun l3 H3 _ s3 hl3=>⟨l3,rfl,_,SqL.of hl3,fun p4 hp4=>?_⟩⟩
      rw [cut_from (n:=1) (i:=1) rfl,← List.map_drop]
      refine ⟨t1,p4,namesN ns,(hangN ns n).drop 1,rfl,SqT.same ((s12.trans s3).upd hp4) h2.sq,upd_same,fun q hq=>?_,by rw [List.length_drop,hang_len]; omega,fun l5 hl5=>?_⟩
      · obtain ⟨i,rfl,_,h⟩:=hang_mem hn (List.mem_of_mem_drop hq)
        unfold namesN
        rw [List.length_map]
        omega
      · and_intros
        refine ⟨l5,_,rfl,.inl (SqL.of upd_same),rfl,?_,_,rfl,?_⟩
        · rw [List.all_map,List.all_eq_true]
          intro q hq
          obtain ⟨i,rfl,_,h⟩:=hang_mem hn (List.mem_of_mem_drop hq)
          show flatV ((namesN ns).getD _ .non) = true
          rw [Int.toNat_natCast,namesN_get h]
          rfl
        · refine ite2 (fun ht=>?_) fun ht=>⟨((s2.trans s3).upd hp4).upd hl5,any_take_more hq hf (Bool.eq_false_iff.mpr (by rw [if_neg Bool.false_ne_true] at ht; exact ht)),_,StIs.rfl⟩
          rw [if_neg Bool.false_ne_true] at ht
          have e:underN one other ns = true:=List.any_eq_true.mpr ⟨_,List.mem_of_getElem? hq,ht⟩
          refine (show Q (.bl true) _ from ?_)
          rw [← e]
          exact k _ (((s12.trans s3).upd hp4).upd hl5)
    · rintro σ H' ⟨s2,hf,o3,rfl⟩
      dsimp only
      subst hB
      and_intros
      rw [List.length_map,List.take_length] at hf
      have e:underN one other ns = false:=hf
      have:=k _ (s1.trans s2)
      rw [e] at this
      exact this
theorem ok_Table_is_under {f:Addr} {fd:FuncData} (F:Fun K "is_under" "Table.is_under" s_Table_is_under f fd) (T:Txt K mg ad) {f_stands_ahead:Addr} {fd_stands_ahead:FuncData} (G_stands_ahead:FnOk P w K mg base CX0 1 f_stands_ahead fd_stands_ahead ["marks","one","other"] (sp_stands_ahead K)) (D_stands_ahead:Def K mg "stands_ahead" s_stands_ahead ["marks","one","other"] f_stands_ahead fd_stands_ahead):FnOk P w K mg base CX0 2 f fd ["self","one","other"] (sp_Table_is_under ad):=by
  refine F.ok sc_Table_is_under (fun vs H Q E h=>?_) (fun cdv A outer s H vs Q E hr h=>?_)
  · obtain ⟨p,ls,w,one,other,rfl,_⟩:=h
    rfl
  · obtain ⟨p,ls,w,one,other,rfl,⟨dx,t1,t2,ts,h1,h2,h3,h4,h5,h6,h7⟩,k⟩:=h
    refine ⟨_,(@pss_cons _ _ _ _ _ (ps_for PassesOwn.never rfl (pi_range1 rfl T.range (pa_cons (pe_fld (pv 0) rfl) pa_nil)) (pg_name (i:=3) sc_Table_is_under.nd rfl (Or.inr rfl))
      (@pss_one _ _ _ (ps_if (pt_val (pe_call G_stands_ahead (hr.mono (by decide)) rfl D_stands_ahead.mg D_stands_ahead.F.kp D_stands_ahead.b .nil pass0 (pa_cons (pe_comp (own:=["line"]) (cap:=["column"]) (ix:=[3]) rfl (show CompScope ["self","one","other","column"] (defScope s_Table_is_under) _ ["line"] ["column"] [3] from ⟨rfl,by decide +kernel,by decide +kernel,by decide +kernel,by decide +kernel,by decide +kernel,by decide +kernel,rfl,by decide +kernel⟩) (pi_tup (pe_fld (pv 0) rfl)) (fun C s₀ H₀ ex pn=>⟨pg_name (i:=0) (show (["line","column"]:List Str).Nodup by decide +kernel) rfl (Or.inl rfl),pifs_nil,(pe_ix (show IxR _ (rIxT K) from ix_tup) (pv 0) (pv 1) (fun _ _=>rfl))⟩)) (pa_cons (pv 1) (pa_cons (pv 2) pa_nil)))))
      (@pss_one _ _ _ (ps_ret pe_bl))
      pss_nil)))
      (@pss_one _ _ _ (ps_ret pe_bl))),?_⟩
    have hlen:=h4.length
    refine tseq_open fun B hB=>?_
    refine (show tFor _ _ _ _ _ _ from ?_)
    unfold tFor
    have split:∀ {wi:TI} {σ:St} {H:Hp} {G:It → Hp → Prop} (J0:It),(∀ G':It → Hp → Prop,G' J0 H → wi σ H G') → G J0 H → wi σ H G:=fun _ h g=>h _ g
    refine split (Itr 0 w) (fun G' hG'=>?_) ?_
    · and_intros
      exact ⟨ad.Table,dx,_,h1,T.cl_Table,T.na_Table_columns,.int w,lookup3 (by decide +kernel) (by decide +kernel),w,rfl,by omega,by omega,hG'⟩
    refine for_range (n:=w) (fun i σ H'=>Same H H' ∧ ((List.range i).any fun c=>aheadB one other (ls.map fun l=>l.getD c .non)) = false ∧ ∃ o3:Option V,StIs σ [some (.ref p),some (.str one),some (.str other),o3]) ⟨Same.refl _,rfl,none,StIs.rfl⟩ ?_ ?_
    · rintro i σ H' hi ⟨s1,hf,o3,rfl⟩
      and_intros
      refine tcomp_tup (K:=K) (a:=t2) (xs:=ts) (H1:=H') (fun R rr=>⟨_,rfl,p,ad.Table,dx,_,.ref t2,rfl,s1 _ _ h1,T.cl_Table,T.na_Table_lines,lookup3b (by decide +kernel),t2,rfl,⟨_,SqT.of (s1 _ _ h3)⟩,rr⟩) (fun j ys H2=>H2 = H' ∧ ys = (ls.take j).map fun l=>l.getD i .non) ⟨rfl,rfl⟩ (fun i ys H' _ ⟨e,_⟩=>e ▸ SqT.of (s1 _ _ h3)) ?_ ?_
      · rintro j x ys H2 R hx ⟨rfl,rfl⟩ hR
        obtain ⟨li,el,tt,ex,ht⟩:=h4.get hx
        subst ex
        have hj:=(List.getElem?_eq_some_iff.mp hx).1
        have hli:=h7 li (List.mem_of_getElem? el)
        have hil:i < li.length:=by have:=hli.1; omega
        have e:(ls.take (j + 1)).map (fun l=>l.getD i .non) = (ls.take j).map (fun l=>l.getD i .non) ++ [li.getD i .non]:=by
          rw [List.take_add_one,el,List.map_append]
          rfl
        and_intros
        refine tYes_in ?_
        refine ⟨li,SqT.of (s1 _ _ ht),li.getD i .non,?_,?_,hR _ _ ⟨rfl,e.symm⟩⟩
        · rw [Int.zero_add,atI_nat (List.getElem?_eq_getElem hil),List.getD_eq_getElem?_getD,List.getElem?_eq_getElem hil]
          rfl
        · rw [List.length_map,List.length_take]
          exact small1000 (by omega)
      · rintro ys H2 ⟨rfl,rfl⟩
        rw [hlen,List.take_length]
        refine ⟨by rw [List.length_map]; exact Nat.le_of_lt (small1000 (by omega)),fun D hD=>⟨D,_,one,other,rfl,.inl (SqL.of upd_same),?_,_,rfl,ite2 (fun ht=>?_) fun ht=>⟨s1.upd hD,?_,_,StIs.rfl⟩⟩⟩
        · rw [List.all_map,List.all_eq_true]
          intro l hl
          have h:=h7 l hl
          have hil:i < l.length:=by have:=h.1; omega
          show markV (l.getD i .non) = true
          rw [List.getD_eq_getElem?_getD,List.getElem?_eq_getElem hil]
          exact List.all_eq_true.mp h.2 _ (List.getElem_mem hil)
        · have e:underT one other ls w = true:=List.any_eq_true.mpr ⟨i,List.mem_range.mpr hi,ht⟩
          refine (show Q (.bl true) _ from ?_)
          rw [← e]
          exact k _ (s1.upd hD)
        · rw [List.range_succ,List.any_append,hf]
          have ht':=Bool.eq_false_iff.mpr ht
          rw [List.any_cons,ht']
          rfl
    · rintro σ H' ⟨s1,hf,o3,rfl⟩
      dsimp only
      subst hB
      and_intros
      have e:underT one other ls w = false:=hf
      have:=k _ s1
      rw [e] at this
      exact this
theorem ok_Under_holds {f:Addr} {fd:FuncData} (F:Fun K "holds" "Under.holds" s_Under_holds f fd) (T:Txt K mg ad) {f_Row_is_under:Addr} {fd_Row_is_under:FuncData} (G_Row_is_under:FnOk P w K mg base CX0 1 f_Row_is_under fd_Row_is_under ["self","one","other"] sp_Row_is_under) {f_Forest_is_under:Addr} {fd_Forest_is_under:FuncData} (G_Forest_is_under:FnOk P w K mg base CX0 3 f_Forest_is_under fd_Forest_is_under ["self","one","other"] (sp_Forest_is_under ad)) {f_Table_is_under:Addr} {fd_Table_is_under:FuncData} (G_Table_is_under:FnOk P w K mg base CX0 2 f_Table_is_under fd_Table_is_under ["self","one","other"] (sp_Table_is_under ad)) (B_Row_is_under:Binds K fd_Row_is_under ["self","one","other"] []) (B_Forest_is_under:Binds K fd_Forest_is_under ["self","one","other"] []) (B_Table_is_under:Binds K fd_Table_is_under ["self","one","other"] []) (ME_Row_is_under:Meth K ad.Row "is_under" f_Row_is_under) (ME_Forest_is_under:Meth K ad.Forest "is_under" f_Forest_is_under) (ME_Table_is_under:Meth K ad.Table "is_under" f_Table_is_under):FnOk P w K mg base CX0 4 f fd ["self","thing"] (sp_Under_holds ad):=by
  refine F.ok sc_Under_holds (fun vs H Q E h=>?_) (fun cdv A outer s H vs Q E hr h=>?_)
  · obtain ⟨p,q,d,a,b,rfl,_⟩:=h
    rfl
  · obtain ⟨p,q,d,a,b,rfl,h,ok,ht,k⟩:=h
    unfold FtAt at h
    obtain ⟨a',dx,e,h⟩:=h
    cases e
    rw [show clsP ad "under" = ad.Under from by unfold clsP; rw [if_neg (by decide +kernel),if_pos rfl]] at h
    unfold okT at ok
    have k':∀ H',Same H H' → Q (.bl (relD d "under" a b)) H':=fun H' s'=>by have:=k H' s'; unfold holdsT at this; exact this
    rw [show relD d "under" a b = underD d a b from by unfold relD; rw [if_neg (by decide +kernel),if_pos rfl]] at k'
    refine ⟨_,(@pss_one _ _ _ (ps_ret (pe_either (pe_either (pe_meth (pv 1) T.cl_Row ME_Row_is_under G_Row_is_under (hr.mono (by decide)) B_Row_is_under .nil pass0 (pa_cons (pe_fld (pv 0) rfl) (pa_cons (pe_fld (pv 0) rfl) pa_nil))) (pe_meth (pv 1) T.cl_Forest ME_Forest_is_under G_Forest_is_under (hr.mono (by decide)) B_Forest_is_under .nil pass0 (pa_cons (pe_fld (pv 0) rfl) (pa_cons (pe_fld (pv 0) rfl) pa_nil)))) (pe_meth (pv 1) T.cl_Table ME_Table_is_under G_Table_is_under (hr.mono (by decide)) B_Table_is_under .nil pass0 (pa_cons (pe_fld (pv 0) rfl) (pa_cons (pe_fld (pv 0) rfl) pa_nil)))))),?_⟩
    and_intros
    have go:∀ {R:V → V → Prop},R (.str a) (.str b) → ∃ x x_2 x_3,H p = some (HO.ins x x_2 x_3) ∧ Cls K x ∧ NoAttr K x (Str.ofString "one") ∧ ∃ x,List.lookup (Str.ofString "one") x_3 = some x ∧ ∃ x_4 x_5 x_6,H p = some (HO.ins x_4 x_5 x_6) ∧ Cls K x_4 ∧ NoAttr K x_4 (Str.ofString "other") ∧ ∃ x_7,List.lookup (Str.ofString "other") x_6 = some x_7 ∧ R x x_7 :=
      fun r=>⟨ad.Under,dx,_,h,T.cl_Under,T.na_Under_one,.str a,by rw [List.lookup_cons,beq_self_eq_true],ad.Under,dx,_,h,T.cl_Under,T.na_Under_other,.str b,lk2 (by decide +kernel),r⟩
    exact th_pick ht (by decide +kernel) (by decide +kernel) (by decide +kernel) (by decide +kernel) (fun xs ed x y e1 e2=>⟨x,y,e1,e2,go (R:=fun u v=>sp_Row_is_under [.ref q,u,v] H Q E0) ⟨_,_,_,rfl,by subst ed; exact k' H (Same.refl _)⟩⟩) (fun ns ed x y e1 e2=>⟨x,y,e1,e2,go (R:=fun u v=>sp_Forest_is_under ad [.ref q,u,v] H Q E0) ⟨q,ns,a,b,rfl,by subst ed; exact ht,by subst ed; exact k'⟩⟩) (fun ls w ed x y e1 e2=>⟨x,y,e1,e2,go (R:=fun u v=>sp_Table_is_under ad [.ref q,u,v] H Q E0) ⟨q,ls,w,a,b,rfl,by subst ed; exact ht,by subst ed; exact k'⟩⟩)
theorem ok_stands_right_ahead {f:Addr} {fd:FuncData} (D:Def K mg "stands_right_ahead" s_stands_right_ahead ["marks","one","other"] f fd) (T:Txt K mg ad):FnOk P w K mg base CX0 1 f fd ["marks","one","other"] sp_stands_right_ahead:=by
  refine D.F.ok sc_stands_right_ahead (fun vs H Q E h=>?_) (fun cdv A outer s H vs Q E hr h=>?_)
  · obtain ⟨t,xs,one,other,rfl,_⟩:=h
    rfl
  · obtain ⟨t,xs,one,other,rfl,hq,hm,hl,k⟩:=h
    refine ⟨_,(@pss_one _ _ _ (ps_ret (pe_callB (call_any rfl) rfl T.any (by decide +kernel) (pa_cons (pe_comp (own:=["first","second"]) (cap:=["one","other"]) (ix:=[1,2]) rfl (show CompScope ["marks","one","other"] (defScope s_stands_right_ahead) _ ["first","second"] ["one","other"] [1,2] from ⟨rfl,by decide +kernel,by decide +kernel,by decide +kernel,by decide +kernel,by decide +kernel,by decide +kernel,rfl,by decide +kernel⟩) (pi_zipT rfl T.zip (pa_cons (pv 0) (pa_cons (pe_slice sl_tupA (pv 0) (po_some pe_int) po_none) pa_nil))) (fun C s₀ H₀ ex pn=>⟨(show PG _ _ (gTup K 2 (gCons (gName 0) (gCons (gName 1) gNil))) from pg_two (i:=0) (j:=1) rfl (show (["first","second","one","other"]:List Str).Nodup by decide +kernel) rfl rfl (Or.inl rfl) (Or.inl rfl)),pifs_nil,(pe_and (pe_cmpR op_eq (pv 0) (pv 2) (nomark _)) (pe_one (pe_cmpR op_eq (pv 1) (pv 3) (nomark _))))⟩)) pa_nil)))),?_⟩
    and_intros
    refine (show iZipT _ _ _ _ from ?_)
    refine split_it (fun J H1=>∃ b ys,Same H H1 ∧ Rd H1 b (.tup ys) ∧ ys = xs.drop 1 ∧ J = Ittz t b) (fun G' hG=>?_) ?_
    · and_intros
      refine ⟨xs,.inl hq,fun hw=>⟨⟨_,hq⟩,⟨_,hq⟩,hG _ _ ⟨t,xs,Same.refl _,hq,?_,rfl⟩⟩,fun hw p hp=>⟨⟨_,rdSame (Same.put hp) hq⟩,⟨_,.inl upd_same⟩,hG _ _ ⟨p,_,Same.put hp,.inl upd_same,?_,rfl⟩⟩⟩
      · have:min 1 xs.length = 0:=hw.1
        have:xs = []:=List.length_eq_zero_iff.mp (by omega)
        rw [this]
        rfl
      · exact cut_from rfl
    · rintro _ H1 ⟨b,ys,s1,hb,rfl,rfl⟩
      have hq1:=rdSame s1 hq
      refine comp_zipT (K:=K) (xs:=xs) (ys:=xs.drop 1) (Q:=fun x H1=>∃ p,x = V.ref p ∧ ∃ x,SqL K H1 p (List.map V.bl x) ∧ Q (V.bl (x.any id)) H1) (fun i zs H'=>Same H1 H' ∧ zs = (((xs.zip (xs.drop 1)).take i).map fun p=>isM one p.1 && isM other p.2).map V.bl) ⟨Same.refl _,rfl⟩ (fun i zs H' ⟨e,_⟩=>⟨rdSame e hq1,rdSame e hb⟩) ?_ ?_
      · rintro i x y zs H' T' R hx hy ⟨s2,rfl⟩ hT hR
        obtain ⟨z1,rfl⟩:=mark_str (List.all_eq_true.mp hm x (List.mem_of_getElem? hx))
        obtain ⟨z2,rfl⟩:=mark_str (List.all_eq_true.mp hm y (List.mem_of_mem_drop (List.mem_of_getElem? hy)))
        have l1:((((xs.zip (xs.drop 1)).take i).map fun p=>isM one p.1 && isM other p.2).map V.bl).length < sizeLine:=by
          have:=(List.getElem?_eq_some_iff.mp hx).1
          rw [List.length_map,List.length_map,List.length_take,List.length_zip]
          exact small1000 (by omega)
        have e2:(((xs.zip (xs.drop 1)).take (i + 1)).map fun p=>isM one p.1 && isM other p.2).map V.bl = (((xs.zip (xs.drop 1)).take i).map fun p=>isM one p.1 && isM other p.2).map V.bl ++ [V.bl (decide (z1 = one) && decide (z2 = other))]:=by
          rw [List.take_add_one,(List.getElem?_zip_eq_some (z:=(V.str z1,V.str z2))).mpr ⟨hx,hy⟩,← isM_str one,← isM_str other,List.map_append,List.map_append]
          rfl
        and_intros
        refine tYes_in ?_
        by_cases h1:z1 = one
        · rw [if_pos h1]
          rw [decide_eq_true h1,Bool.true_and] at e2
          exact ⟨l1,hR _ _ ⟨s2.upd hT,e2.symm⟩⟩
        · rw [if_neg h1]
          rw [decide_eq_false h1,Bool.false_and] at e2
          exact ⟨l1,hR _ _ ⟨s2.upd hT,e2.symm⟩⟩
      · rintro zs H' ⟨s2,rfl⟩
        and_intros
        rw [List.take_of_length_le (by rw [List.length_zip]; exact Nat.le_refl _)]
        refine ⟨by rw [List.length_map,List.length_map,List.length_zip]; exact Nat.le_of_lt (small1000 (by omega)),fun D hD=>⟨_,SqL.of upd_same,?_⟩⟩
        rw [List.any_map]
        exact k _ ((s1.trans s2).upd hD)
theorem ok_Row_is_beside {f:Addr} {fd:FuncData} (F:Fun K "is_beside" "Row.is_beside" s_Row_is_beside f fd) (T:Txt K mg ad) {f_stands_right_ahead:Addr} {fd_stands_right_ahead:FuncData} (G_stands_right_ahead:FnOk P w K mg base CX0 1 f_stands_right_ahead fd_stands_right_ahead ["marks","one","other"] sp_stands_right_ahead) (D_stands_right_ahead:Def K mg "stands_right_ahead" s_stands_right_ahead ["marks","one","other"] f_stands_right_ahead fd_stands_right_ahead):FnOk P w K mg base CX0 2 f fd ["self","one","other"] (sp_Row_is_beside ad):=by
  refine F.ok sc_Row_is_beside (fun vs H Q E h=>?_) (fun cdv A outer s H vs Q E hr h=>?_)
  · obtain ⟨p,xs,one,other,rfl,_⟩:=h
    rfl
  · obtain ⟨p,xs,one,other,rfl,⟨dx,t,h1,h2,h3,h4⟩,k⟩:=h
    refine ⟨_,(@pss_one _ _ _ (ps_ret (pe_call G_stands_right_ahead (hr.mono (by decide)) rfl D_stands_right_ahead.mg D_stands_right_ahead.F.kp D_stands_right_ahead.b .nil pass0 (pa_cons (pe_fld (pv 0) rfl) (pa_cons (pv 1) (pa_cons (pv 2) pa_nil)))))),?_⟩
    and_intros
    exact ⟨ad.Row,dx,_,h1,T.cl_Row,T.na_Row_spot_marks,.ref t,rfl,t,xs,one,other,rfl,(let ⟨o,e,_⟩:=h2; .inr ⟨o,e⟩),h3,by omega,k⟩
theorem ok_Forest_is_beside {f:Addr} {fd:FuncData} (F:Fun K "is_beside" "Forest.is_beside" s_Forest_is_beside f fd) (T:Txt K mg ad) {f_Forest_standing:Addr} {fd_Forest_standing:FuncData} (G_Forest_standing:FnOk P w K mg base CX0 2 f_Forest_standing fd_Forest_standing ["self","mark"] (sp_Forest_standing ad)) {f_Forest_hanging:Addr} {fd_Forest_hanging:FuncData} (G_Forest_hanging:FnOk P w K mg base CX0 2 f_Forest_hanging fd_Forest_hanging ["self","place"] (sp_Forest_hanging ad)) {f_Forest_many:Addr} {fd_Forest_many:FuncData} (G_Forest_many:FnOk P w K mg base CX0 1 f_Forest_many fd_Forest_many ["self"] (sp_many ad)) (B_Forest_standing:Binds K fd_Forest_standing ["self","mark"] []) (B_Forest_hanging:Binds K fd_Forest_hanging ["self","place"] []) (B_Forest_many:Binds K fd_Forest_many ["self"] []) (ME_Forest_standing:Meth K ad.Forest "standing" f_Forest_standing) (ME_Forest_hanging:Meth K ad.Forest "hanging" f_Forest_hanging) (ME_Forest_many:Meth K ad.Forest "many" f_Forest_many):FnOk P w K mg base CX0 3 f fd ["self","one","other"] (sp_Forest_is_beside ad):=by
  refine F.ok sc_Forest_is_beside (fun vs H Q E h=>?_) (fun cdv A outer s H vs Q E hr h=>?_)
  · obtain ⟨p,ns,one,other,rfl,_⟩:=h
    rfl
  · obtain ⟨p,ns,one,other,rfl,ho,hso,k⟩:=h
    have hu:=hr.units
    refine ⟨_,(@pss_cons _ _ _ _ _ (ps_for PassesOwn.never rfl (pi_list (pe_meth (pv 0) T.cl_Forest ME_Forest_standing G_Forest_standing (hr.mono (by decide)) B_Forest_standing .nil pass0 (pa_cons (pv 1) pa_nil))) (pg_name (i:=3) sc_Forest_is_beside.nd rfl (Or.inl rfl))
      (@pss_cons _ _ _ _ _ (ps_set (i:=4) sc_Forest_is_beside.nd rfl (Or.inl rfl) (pe_op op_add (pe_ix ix_list (pe_meth (pv 0) T.cl_Forest ME_Forest_hanging G_Forest_hanging (hr.mono (by decide)) B_Forest_hanging .nil pass0 (pa_cons (pv 3) pa_nil)) (pe_un un_neg pe_int) (fun _ _=>rfl)) pe_int))
      (@pss_one _ _ _ (ps_if (PW.pt (pw_and (pt_cmpR op_lt (pv 4) (pe_meth0 (pv 0) T.cl_Forest ME_Forest_many G_Forest_many (hr.mono (by decide)) B_Forest_many .nil pass0) (nomark _)) (pw_and1 (pt_cmpR (op_eqD hu) (pe_ix ix_tup (pe_fld (pv 0) rfl) (pv 4) (fun _ _=>rfl)) (pe_tup (pa_cons (pv 2) (pa_cons (pe_ix ix_tup (pe_ix ix_tup (pe_fld (pv 0) rfl) (pv 3) (fun _ _=>rfl)) pe_int (fun _ _=>rfl)) pa_nil))) (nomark _)))))
      (@pss_one _ _ _ (ps_ret pe_bl))
      pss_nil))))
      (@pss_one _ _ _ (ps_ret pe_bl))),?_⟩
    obtain ⟨hp,hd,hl⟩:=id ho
    obtain ⟨dx,t1,t2,xs,h1,h2,h3,h4⟩:=id hp
    have hlen:=h4.length
    refine tseq_open fun B hB=>?_
    refine (show tFor _ _ _ _ _ _ from ?_)
    unfold tFor
    refine split_it (fun J H1=>∃ l,Same H H1 ∧ H1 l = some (.lst ((idxs (isM one) 0 (namesN ns)).map V.int)) ∧ J = Itl K l) (fun G' hG=>?_) ?_
    · and_intros
      exact ⟨dx,_,h1,lookup_no (by decide +kernel) (by decide +kernel),p,ns,one,rfl,ho,fun l H1 _ s1 h=>⟨l,rfl,⟨_,SqL.of h⟩,hG _ _ ⟨l,s1,h,rfl⟩⟩⟩
    rintro _ H1 ⟨l,s1,hl1,rfl⟩
    refine for_list (xs:=(idxs (isM one) 0 (namesN ns)).map V.int) (fun i σ H'=>Same H1 H' ∧ (((idxs (isM one) 0 (namesN ns)).take i).any fun p=>decide (p.toNat + tailN ns p.toNat + 1 < ns.length) && decide (ns.getD (p.toNat + tailN ns p.toNat + 1) ("",0) = (other,(ns.getD p.toNat ("",0)).2))) = false ∧ ∃ o3 o4:Option V,StIs σ [some (.ref p),some (.str one),some (.str other),o3,o4]) ⟨Same.refl _,rfl,none,none,StIs.rfl⟩ (fun i σ H' _ ⟨e,_⟩=>SqL.of (e _ _ hl1)) ?_ ?_
    · rintro i x σ H' hx ⟨s2,hf,o3,o4,rfl⟩
      obtain ⟨q,hq,rfl⟩:=Option.map_eq_some_iff.mp (List.getElem?_map .. ▸ hx)
      obtain ⟨n,y,eq1,hx1,_⟩:=mem_idxs.mp (List.mem_of_getElem? hq)
      rw [Nat.zero_add] at eq1
      subst eq1
      have hn:n < ns.length:=by
        have:=(List.getElem?_eq_some_iff.mp hx1).1
        unfold namesN at this
        rwa [List.length_map] at this
      have tl:=tail_le ns n
      have s12:=s1.trans s2
      refine tseq_open fun B2 hB2=>?_
      and_intros
      refine ⟨dx,_,s12 _ _ h1,lookup_no (by decide +kernel) (by decide +kernel),p,ns,n,rfl,ho.same s12,hn,fun l3 H3 _ s3 hl3=>⟨l3,rfl,_,SqL.of hl3,_,hang_last ns n,_,rfl,?_⟩⟩
      have s13:=s12.trans s3
      subst hB2
      and_intros
      refine ⟨dx,_,s13 _ _ h1,lookup_no (by decide +kernel) (by decide +kernel),p,ns,rfl,hp.same s13,_,rfl,ite2 (fun hlt=>?_) fun hge=>?_⟩
      · have hlt':n + tailN ns n + 1 < ns.length:=by omega
        obtain ⟨n1,en1,t',ex1,ht1⟩:=h4.get (List.getElem?_eq_getElem (by omega:n + tailN ns n + 1 < xs.length))
        obtain ⟨n0,en0,t0,ex0,ht0⟩:=h4.get (List.getElem?_eq_getElem (by omega:n < xs.length))
        have e1:atI xs ((n:Int) + (tailN ns n:Int) + 1) = some (.ref t'):=by
          rw [show (n:Int) + (tailN ns n:Int) + 1 = ((n + tailN ns n + 1:Nat):Int) by omega,← ex1]
          exact atI_nat (List.getElem?_eq_getElem (by omega))
        have e0:atI xs (n:Int) = some (.ref t0):=by rw [← ex0]; exact atI_nat (List.getElem?_eq_getElem (by omega))
        refine ⟨ad.Forest,dx,_,s13 _ _ h1,T.cl_Forest,T.na_Forest_nodes,.ref t2,lookup2 (by decide +kernel),t2,rfl,xs,SqT.of (s13 _ _ h3),_,e1,ad.Forest,dx,_,s13 _ _ h1,T.cl_Forest,T.na_Forest_nodes,.ref t2,lookup2 (by decide +kernel),t2,rfl,xs,SqT.of (s13 _ _ h3),_,e0,t0,rfl,_,SqT.of (s13 _ _ ht0),_,rfl,?_⟩
        have f:(fun p:Int=>decide (p.toNat + tailN ns p.toNat + 1 < ns.length) && decide (ns.getD (p.toNat + tailN ns p.toNat + 1) ("",0) = (other,(ns.getD p.toNat ("",0)).2))) (n:Int) = decide (n1.1 = other ∧ n1.2 = n0.2):=by
          show (decide ((n:Int).toNat + tailN ns (n:Int).toNat + 1 < ns.length) && decide (ns.getD ((n:Int).toNat + tailN ns (n:Int).toNat + 1) ("",0) = (other,(ns.getD (n:Int).toNat ("",0)).2))) = _
          rw [Int.toNat_natCast,decide_eq_true hlt',Bool.true_and,List.getD_eq_getElem?_getD,List.getD_eq_getElem?_getD,en1,en0]
          show decide (n1 = (other,n0.2)) = _
          by_cases h1:n1.1 = other <;> by_cases h2:n1.2 = n0.2 <;> simp [h1,h2,Prod.ext_iff]
        refine ⟨by decide,fun p4 hp4=>⟨_,_,.tup (SqT.of ((s13.upd hp4) _ _ ht1)) (.cons (.str _) (.cons (.int _) .nil)),.tup (SqT.of upd_same) (.cons (.str _) (.cons (.int _) .nil)),shaped_pair (mark_strOk (depthOk_all hd n1 (List.mem_of_getElem? en1)).1) _,shaped_pair hso _,_,rfl,?_⟩⟩
        rw [if_neg Bool.false_ne_true,eqv_pair]
        refine ite2 (fun ht=>?_) fun ht=>⟨(s2.trans s3).upd hp4,any_take_more hq hf (f.trans (Bool.eq_false_iff.mpr ht)),_,_,StIs.rfl⟩
        have e:besideN one other ns = true:=List.any_eq_true.mpr ⟨_,List.mem_of_getElem? hq,f.trans ht⟩
        refine (show Q (.bl true) _ from ?_)
        rw [← e]
        exact k _ (s13.upd hp4)
      · refine ⟨s2.trans s3,any_take_more hq hf ?_,_,_,StIs.rfl⟩
        show (decide _ && _) = false
        rw [Int.toNat_natCast,decide_eq_false (by omega)]
        rfl
    · rintro σ H' ⟨s2,hf,o3,o4,rfl⟩
      dsimp only
      subst hB
      and_intros
      rw [List.length_map,List.take_length] at hf
      have e:besideN one other ns = false:=hf
      have:=k _ (s1.trans s2)
      rw [e] at this
      exact this
theorem ok_Table_is_beside {f:Addr} {fd:FuncData} (F:Fun K "is_beside" "Table.is_beside" s_Table_is_beside f fd) (T:Txt K mg ad) {f_stands_right_ahead:Addr} {fd_stands_right_ahead:FuncData} (G_stands_right_ahead:FnOk P w K mg base CX0 1 f_stands_right_ahead fd_stands_right_ahead ["marks","one","other"] sp_stands_right_ahead) (D_stands_right_ahead:Def K mg "stands_right_ahead" s_stands_right_ahead ["marks","one","other"] f_stands_right_ahead fd_stands_right_ahead):FnOk P w K mg base CX0 2 f fd ["self","one","other"] (sp_Table_is_beside ad):=by
  refine F.ok sc_Table_is_beside (fun vs H Q E h=>?_) (fun cdv A outer s H vs Q E hr h=>?_)
  · obtain ⟨p,ls,w,one,other,rfl,_⟩:=h
    rfl
  · obtain ⟨p,ls,w,one,other,rfl,⟨dx,t1,t2,ts,h1,h2,h3,h4,h5,h6,h7⟩,k⟩:=h
    refine ⟨_,(@pss_one _ _ _ (ps_ret (pe_callB (call_any rfl) rfl T.any (by decide +kernel) (pa_cons (pe_comp (own:=["line"]) (cap:=["one","other"]) (ix:=[1,2]) rfl (show CompScope ["self","one","other"] (defScope s_Table_is_beside) _ ["line"] ["one","other"] [1,2] from ⟨rfl,by decide +kernel,by decide +kernel,by decide +kernel,by decide +kernel,by decide +kernel,by decide +kernel,rfl,by decide +kernel⟩) (pi_tup (pe_fld (pv 0) rfl)) (fun C s₀ H₀ ex pn=>⟨pg_name (i:=0) (show (["line","one","other"]:List Str).Nodup by decide +kernel) rfl (Or.inl rfl),pifs_nil,(pe_call G_stands_right_ahead (hr.mono (by decide)) rfl D_stands_right_ahead.mg D_stands_right_ahead.F.kp D_stands_right_ahead.b .nil pass0 (pa_cons (pv 0) (pa_cons (pv 1) (pa_cons (pv 2) pa_nil))))⟩)) pa_nil)))),?_⟩
    have hlen:=h4.length
    and_intros
    refine tcomp_tup (K:=K) (a:=t2) (xs:=ts) (H1:=H) (fun R rr=>⟨_,rfl,p,ad.Table,dx,_,.ref t2,rfl,h1,T.cl_Table,T.na_Table_lines,lookup3b (by decide +kernel),t2,rfl,⟨_,SqT.of h3⟩,rr⟩) (fun i ys H'=>Same H H' ∧ ys = ((ls.take i).map (nextB one other)).map V.bl) ⟨Same.refl _,rfl⟩ (fun i ys H' _ ⟨e,_⟩=>SqT.of (e _ _ h3)) ?_ ?_
    · rintro i x ys H' R hx ⟨s1,rfl⟩ hR
      obtain ⟨li,el,tt,ex,ht⟩:=h4.get hx
      subst ex
      have hi:=(List.getElem?_eq_some_iff.mp hx).1
      have hli:=h7 li (List.mem_of_getElem? el)
      have e:((ls.take (i + 1)).map (nextB one other)).map V.bl = ((ls.take i).map (nextB one other)).map V.bl ++ [V.bl (nextB one other li)]:=by
        rw [List.take_add_one,el,List.map_append,List.map_append]
        rfl
      and_intros
      refine tYes_in ?_
      refine ⟨tt,li,one,other,rfl,.inl (s1 _ _ ht),hli.2,by have:=hli.1; omega,fun H2 s2=>⟨?_,hR _ _ ⟨s1.trans s2,e.symm⟩⟩⟩
      rw [List.length_map,List.length_map,List.length_take]
      exact small1000 (by omega)
    · rintro ys H' ⟨s1,rfl⟩
      rw [hlen,List.take_length]
      and_intros
      refine ⟨by rw [List.length_map,List.length_map]; exact Nat.le_of_lt (small1000 (by omega)),fun D hD=>?_⟩
      refine ⟨_,SqL.of upd_same,?_⟩
      rw [List.any_map]
      exact k _ (s1.upd hD)
theorem ok_Beside_holds {f:Addr} {fd:FuncData} (F:Fun K "holds" "Beside.holds" s_Beside_holds f fd) (T:Txt K mg ad) {f_Row_is_beside:Addr} {fd_Row_is_beside:FuncData} (G_Row_is_beside:FnOk P w K mg base CX0 2 f_Row_is_beside fd_Row_is_beside ["self","one","other"] (sp_Row_is_beside ad)) {f_Forest_is_beside:Addr} {fd_Forest_is_beside:FuncData} (G_Forest_is_beside:FnOk P w K mg base CX0 3 f_Forest_is_beside fd_Forest_is_beside ["self","one","other"] (sp_Forest_is_beside ad)) {f_Table_is_beside:Addr} {fd_Table_is_beside:FuncData} (G_Table_is_beside:FnOk P w K mg base CX0 2 f_Table_is_beside fd_Table_is_beside ["self","one","other"] (sp_Table_is_beside ad)) (B_Row_is_beside:Binds K fd_Row_is_beside ["self","one","other"] []) (B_Forest_is_beside:Binds K fd_Forest_is_beside ["self","one","other"] []) (B_Table_is_beside:Binds K fd_Table_is_beside ["self","one","other"] []) (ME_Row_is_beside:Meth K ad.Row "is_beside" f_Row_is_beside) (ME_Forest_is_beside:Meth K ad.Forest "is_beside" f_Forest_is_beside) (ME_Table_is_beside:Meth K ad.Table "is_beside" f_Table_is_beside):FnOk P w K mg base CX0 4 f fd ["self","thing"] (sp_Beside_holds ad):=by
  refine F.ok sc_Beside_holds (fun vs H Q E h=>?_) (fun cdv A outer s H vs Q E hr h=>?_)
  · obtain ⟨p,q,d,a,b,rfl,_⟩:=h
    rfl
  · obtain ⟨p,q,d,a,b,rfl,h,ok,ht,k⟩:=h
    unfold FtAt at h
    obtain ⟨a',dx,e,h⟩:=h
    cases e
    rw [show clsP ad "beside" = ad.Beside from by unfold clsP; rw [if_neg (by decide +kernel),if_neg (by decide +kernel)]] at h
    unfold okT at ok
    have k':∀ H',Same H H' → Q (.bl (relD d "beside" a b)) H':=fun H' s'=>by have:=k H' s'; unfold holdsT at this; exact this
    rw [show relD d "beside" a b = besideD d a b from by unfold relD; rw [if_neg (by decide +kernel),if_neg (by decide +kernel)]] at k'
    refine ⟨_,(@pss_one _ _ _ (ps_ret (pe_either (pe_either (pe_meth (pv 1) T.cl_Row ME_Row_is_beside G_Row_is_beside (hr.mono (by decide)) B_Row_is_beside .nil pass0 (pa_cons (pe_fld (pv 0) rfl) (pa_cons (pe_fld (pv 0) rfl) pa_nil))) (pe_meth (pv 1) T.cl_Forest ME_Forest_is_beside G_Forest_is_beside (hr.mono (by decide)) B_Forest_is_beside .nil pass0 (pa_cons (pe_fld (pv 0) rfl) (pa_cons (pe_fld (pv 0) rfl) pa_nil)))) (pe_meth (pv 1) T.cl_Table ME_Table_is_beside G_Table_is_beside (hr.mono (by decide)) B_Table_is_beside .nil pass0 (pa_cons (pe_fld (pv 0) rfl) (pa_cons (pe_fld (pv 0) rfl) pa_nil)))))),?_⟩
    and_intros
    have go:∀ {R:V → V → Prop},R (.str a) (.str b) → ∃ x x_2 x_3,H p = some (HO.ins x x_2 x_3) ∧ Cls K x ∧ NoAttr K x (Str.ofString "one") ∧ ∃ x,List.lookup (Str.ofString "one") x_3 = some x ∧ ∃ x_4 x_5 x_6,H p = some (HO.ins x_4 x_5 x_6) ∧ Cls K x_4 ∧ NoAttr K x_4 (Str.ofString "other") ∧ ∃ x_7,List.lookup (Str.ofString "other") x_6 = some x_7 ∧ R x x_7 :=
      fun r=>⟨ad.Beside,dx,_,h,T.cl_Beside,T.na_Beside_one,.str a,by rw [List.lookup_cons,beq_self_eq_true],ad.Beside,dx,_,h,T.cl_Beside,T.na_Beside_other,.str b,lk2 (by decide +kernel),r⟩
    exact th_pick ht (by decide +kernel) (by decide +kernel) (by decide +kernel) (by decide +kernel) (fun xs ed x y e1 e2=>⟨x,y,e1,e2,go (R:=fun u v=>sp_Row_is_beside ad [.ref q,u,v] H Q E0) ⟨q,xs,a,b,rfl,by subst ed; exact ht,by subst ed; exact k'⟩⟩) (fun ns ed x y e1 e2=>⟨x,y,e1,e2,go (R:=fun u v=>sp_Forest_is_beside ad [.ref q,u,v] H Q E0) ⟨q,ns,a,b,rfl,by subst ed; exact ht,mark_strOk ok.2.2,by subst ed; exact k'⟩⟩) (fun ls w ed x y e1 e2=>⟨x,y,e1,e2,go (R:=fun u v=>sp_Table_is_beside ad [.ref q,u,v] H Q E0) ⟨q,ls,w,a,b,rfl,by subst ed; exact ht,by subst ed; exact k'⟩⟩)
theorem ok_Joint_init {f:Addr} {fd:FuncData} (F:Fun K "__init__" "Joint.__init__" s_Joint_init f fd) (T:Txt K mg ad):FnOk P w K mg base CX0 1 f fd ["self","parts"] (sp_Joint_init K ad):=by
  refine F.ok sc_Joint_init (fun vs H Q E h=>?_) (fun cdv A outer s H vs Q E hr h=>?_)
  · obtain ⟨p,dx,l,b,xs,rfl,_⟩:=h
    rfl
  · obtain ⟨p,dx,l,b,xs,rfl,h,hl,k⟩:=h
    have cl:Cls K (clsJ ad b):=by
      cases b
      · exact T.cl_Any
      · exact T.cl_All
    have n1:NoAttr K (clsJ ad b) "parts":=by
      cases b
      · exact T.na_Any_parts
      · exact T.na_All_parts
    refine ⟨_,(@pss_one _ _ _ (ps_fld (pv 0) (pe_callTy call_tupL rfl T.tuple PyProof.Rows.boot_tuple (pa_cons (pv 1) pa_nil)) rfl)),?_⟩
    and_intros
    refine ⟨xs,hl,fun t ht=>⟨clsJ ad b,dx,[],?_,cl,n1,by decide,k t ht⟩⟩
    rw [upd_ne (ne_of_none h ht)]
    exact h
theorem ok_All_holds {f:Addr} {fd:FuncData} {n:Nat} (F:Fun K "holds" "All.holds" s_All_holds f fd) (T:Txt K mg ad) {f_Has_holds:Addr} {fd_Has_holds:FuncData} (G_Has_holds:FnOk P w K mg base CX0 2 f_Has_holds fd_Has_holds ["self","thing"] (sp_Has_holds ad)) {f_Many_holds:Addr} {fd_Many_holds:FuncData} (G_Many_holds:FnOk P w K mg base CX0 2 f_Many_holds fd_Many_holds ["self","thing"] (sp_Many_holds ad)) {f_Before_holds:Addr} {fd_Before_holds:FuncData} (G_Before_holds:FnOk P w K mg base CX0 3 f_Before_holds fd_Before_holds ["self","thing"] (sp_Before_holds ad)) {f_Under_holds:Addr} {fd_Under_holds:FuncData} (G_Under_holds:FnOk P w K mg base CX0 4 f_Under_holds fd_Under_holds ["self","thing"] (sp_Under_holds ad)) {f_Beside_holds:Addr} {fd_Beside_holds:FuncData} (G_Beside_holds:FnOk P w K mg base CX0 4 f_Beside_holds fd_Beside_holds ["self","thing"] (sp_Beside_holds ad)) {f_All_holds:Addr} {fd_All_holds:FuncData} (G_All_holds:FnOk P w K mg base CX0 (n + 5) f_All_holds fd_All_holds ["self","thing"] (sp_All_holds ad n)) {f_Any_holds:Addr} {fd_Any_holds:FuncData} (G_Any_holds:FnOk P w K mg base CX0 (n + 5) f_Any_holds fd_Any_holds ["self","thing"] (sp_Any_holds ad n)) {f_Not_holds:Addr} {fd_Not_holds:FuncData} (G_Not_holds:FnOk P w K mg base CX0 (n + 5) f_Not_holds fd_Not_holds ["self","thing"] (sp_Not_holds ad n)) (B_Has_holds:Binds K fd_Has_holds ["self","thing"] []) (B_Many_holds:Binds K fd_Many_holds ["self","thing"] []) (B_Before_holds:Binds K fd_Before_holds ["self","thing"] []) (B_Under_holds:Binds K fd_Under_holds ["self","thing"] []) (B_Beside_holds:Binds K fd_Beside_holds ["self","thing"] []) (B_All_holds:Binds K fd_All_holds ["self","thing"] []) (B_Any_holds:Binds K fd_Any_holds ["self","thing"] []) (B_Not_holds:Binds K fd_Not_holds ["self","thing"] []) (ME_Has_holds:Meth K ad.Has "holds" f_Has_holds) (ME_Many_holds:Meth K ad.Many "holds" f_Many_holds) (ME_Before_holds:Meth K ad.Before "holds" f_Before_holds) (ME_Under_holds:Meth K ad.Under "holds" f_Under_holds) (ME_Beside_holds:Meth K ad.Beside "holds" f_Beside_holds) (ME_All_holds:Meth K ad.All "holds" f_All_holds) (ME_Any_holds:Meth K ad.Any "holds" f_Any_holds) (ME_Not_holds:Meth K ad.Not "holds" f_Not_holds):FnOk P w K mg base CX0 (n + 1 + 5) f fd ["self","thing"] (sp_All_holds ad (n + 1)):=by
  refine F.ok sc_All_holds (fun vs H Q E h=>?_) (fun cdv A outer s H vs Q E hr h=>?_)
  · obtain ⟨p,q,d,ps,rfl,_⟩:=h
    rfl
  · obtain ⟨p,q,d,ps,rfl,h,ok,ht,hd,k⟩:=h
    unfold FtAt at h
    obtain ⟨a,dx,t,xs,e,h,hts,hfs⟩:=h
    cases e
    unfold okT at ok
    have k':∀ H',Same H H' → Q (.bl (ps.all (holdsT d))) H':=fun H' s'=>by have:=k H' s'; unfold holdsT at this; rw [holdsA_all] at this; exact this
    refine ⟨_,(@pss_cons _ _ _ _ _ (ps_for PassesOwn.never rfl (pi_tup (pe_fld (pv 0) rfl)) (pg_name (i:=2) sc_All_holds.nd rfl (Or.inl rfl))
      (@pss_one _ _ _ (ps_if (pt_not (pt_val (pe_either (pe_either (pe_either (pe_either (pe_either (pe_either (pe_either (pe_meth (pv 2) T.cl_Has ME_Has_holds G_Has_holds (hr.mono (by omega)) B_Has_holds .nil pass0 (pa_cons (pv 1) pa_nil)) (pe_meth (pv 2) T.cl_Many ME_Many_holds G_Many_holds (hr.mono (by omega)) B_Many_holds .nil pass0 (pa_cons (pv 1) pa_nil))) (pe_meth (pv 2) T.cl_Before ME_Before_holds G_Before_holds (hr.mono (by omega)) B_Before_holds .nil pass0 (pa_cons (pv 1) pa_nil))) (pe_meth (pv 2) T.cl_Under ME_Under_holds G_Under_holds (hr.mono (by omega)) B_Under_holds .nil pass0 (pa_cons (pv 1) pa_nil))) (pe_meth (pv 2) T.cl_Beside ME_Beside_holds G_Beside_holds (hr.mono (by omega)) B_Beside_holds .nil pass0 (pa_cons (pv 1) pa_nil))) (pe_meth (pv 2) T.cl_All ME_All_holds G_All_holds (hr.mono (by omega)) B_All_holds .nil pass0 (pa_cons (pv 1) pa_nil))) (pe_meth (pv 2) T.cl_Any ME_Any_holds G_Any_holds (hr.mono (by omega)) B_Any_holds .nil pass0 (pa_cons (pv 1) pa_nil))) (pe_meth (pv 2) T.cl_Not ME_Not_holds G_Not_holds (hr.mono (by omega)) B_Not_holds .nil pass0 (pa_cons (pv 1) pa_nil)))))
      (@pss_one _ _ _ (ps_ret pe_bl))
      pss_nil)))
      (@pss_one _ _ _ (ps_ret pe_bl))),?_⟩
    refine tseq_open fun B hB=>?_
    refine (show tFor _ _ _ _ _ _ from ?_)
    refine (show iTup _ _ _ _ _ from ?_)
    refine ⟨_,rfl,p,_,dx,_,_,rfl,h,T.cl_All,T.na_All_parts,rfl,t,rfl,⟨_,SqT.of hts⟩,for_tup (xs:=xs) (fun i σ H'=>Same H H' ∧ ((ps.take i).all (holdsT d) = true) ∧ ∃ o:Option V,StIs σ [some (.ref p),some (.ref q),o]) ⟨Same.refl _,rfl,none,StIs.rfl⟩ (fun i σ H' _ ⟨e,_⟩=>SqT.of (e _ _ hts)) ?_ ?_⟩
    · rintro i x σ H' hx ⟨s1,hb,o,rfl⟩
      obtain ⟨pm,hpm,fpm⟩:=hfs.get hx
      have hmem:=List.mem_of_getElem? hpm
      have dpm:=dpL_mem hmem
      and_intros
      refine ft_pick (n:=n) (Q:=fun x_3 H1=>∃ c,x_3 = V.bl c ∧ if c = false then Q (V.bl false) H1 else Same H H1 ∧ ((List.take (i + 1) ps).all (holdsT d) = true) ∧ ∃ o,StIs [some (V.ref p),some (V.ref q),some x] [some (V.ref p),some (V.ref q),o]) (fpm.same s1) (okL_mem ok.2 hmem) (ht.same s1) (by omega) (fun H2 s2=>⟨_,rfl,?_⟩) (fun ⟨a,x,y,e,h1,h2,s⟩=>⟨a,e,x,y,h1,h2,s⟩) (fun ⟨a,x,y,e,h1,h2,s⟩=>⟨a,e,x,y,h1,h2,s⟩) (fun ⟨a,x,y,e,h1,h2,s⟩=>⟨a,e,x,y,h1,h2,s⟩) (fun ⟨a,x,y,e,h1,h2,s⟩=>⟨a,e,x,y,h1,h2,s⟩) (fun ⟨a,x,y,e,h1,h2,s⟩=>⟨a,e,x,y,h1,h2,s⟩) (fun ⟨a,x,y,e,h1,h2,s⟩=>⟨a,e,x,y,h1,h2,s⟩) (fun ⟨a,x,y,e,h1,h2,s⟩=>⟨a,e,x,y,h1,h2,s⟩) (fun ⟨a,x,y,e,h1,h2,s⟩=>⟨a,e,x,y,h1,h2,s⟩)
      by_cases hc:holdsT d pm = false
      · rw [if_pos hc]
        have:=k' H2 (s1.trans s2)
        rw [show ps.all (holdsT d) = false from List.all_eq_false.mpr ⟨pm,hmem,by rw [hc]; decide⟩] at this
        exact this
      · rw [if_neg hc]
        refine ⟨s1.trans s2,?_,_,StIs.rfl⟩
        rw [List.take_add_one,hpm]
        rw [List.all_append,hb,Bool.true_and]; show (holdsT d pm && true) = true; rw [Bool.and_true]; exact Bool.not_eq_false _ ▸ hc
    rintro σ H' ⟨s1,hb,o,rfl⟩
    dsimp only
    subst hB
    and_intros
    rw [hfs.length,List.take_length] at hb
    rw [hb] at k'
    exact k' H' s1
theorem ok_Any_holds {f:Addr} {fd:FuncData} {n:Nat} (F:Fun K "holds" "Any.holds" s_Any_holds f fd) (T:Txt K mg ad) {f_Has_holds:Addr} {fd_Has_holds:FuncData} (G_Has_holds:FnOk P w K mg base CX0 2 f_Has_holds fd_Has_holds ["self","thing"] (sp_Has_holds ad)) {f_Many_holds:Addr} {fd_Many_holds:FuncData} (G_Many_holds:FnOk P w K mg base CX0 2 f_Many_holds fd_Many_holds ["self","thing"] (sp_Many_holds ad)) {f_Before_holds:Addr} {fd_Before_holds:FuncData} (G_Before_holds:FnOk P w K mg base CX0 3 f_Before_holds fd_Before_holds ["self","thing"] (sp_Before_holds ad)) {f_Under_holds:Addr} {fd_Under_holds:FuncData} (G_Under_holds:FnOk P w K mg base CX0 4 f_Under_holds fd_Under_holds ["self","thing"] (sp_Under_holds ad)) {f_Beside_holds:Addr} {fd_Beside_holds:FuncData} (G_Beside_holds:FnOk P w K mg base CX0 4 f_Beside_holds fd_Beside_holds ["self","thing"] (sp_Beside_holds ad)) {f_All_holds:Addr} {fd_All_holds:FuncData} (G_All_holds:FnOk P w K mg base CX0 (n + 5) f_All_holds fd_All_holds ["self","thing"] (sp_All_holds ad n)) {f_Any_holds:Addr} {fd_Any_holds:FuncData} (G_Any_holds:FnOk P w K mg base CX0 (n + 5) f_Any_holds fd_Any_holds ["self","thing"] (sp_Any_holds ad n)) {f_Not_holds:Addr} {fd_Not_holds:FuncData} (G_Not_holds:FnOk P w K mg base CX0 (n + 5) f_Not_holds fd_Not_holds ["self","thing"] (sp_Not_holds ad n)) (B_Has_holds:Binds K fd_Has_holds ["self","thing"] []) (B_Many_holds:Binds K fd_Many_holds ["self","thing"] []) (B_Before_holds:Binds K fd_Before_holds ["self","thing"] []) (B_Under_holds:Binds K fd_Under_holds ["self","thing"] []) (B_Beside_holds:Binds K fd_Beside_holds ["self","thing"] []) (B_All_holds:Binds K fd_All_holds ["self","thing"] []) (B_Any_holds:Binds K fd_Any_holds ["self","thing"] []) (B_Not_holds:Binds K fd_Not_holds ["self","thing"] []) (ME_Has_holds:Meth K ad.Has "holds" f_Has_holds) (ME_Many_holds:Meth K ad.Many "holds" f_Many_holds) (ME_Before_holds:Meth K ad.Before "holds" f_Before_holds) (ME_Under_holds:Meth K ad.Under "holds" f_Under_holds) (ME_Beside_holds:Meth K ad.Beside "holds" f_Beside_holds) (ME_All_holds:Meth K ad.All "holds" f_All_holds) (ME_Any_holds:Meth K ad.Any "holds" f_Any_holds) (ME_Not_holds:Meth K ad.Not "holds" f_Not_holds):FnOk P w K mg base CX0 (n + 1 + 5) f fd ["self","thing"] (sp_Any_holds ad (n + 1)):=by
  refine F.ok sc_Any_holds (fun vs H Q E h=>?_) (fun cdv A outer s H vs Q E hr h=>?_)
  · obtain ⟨p,q,d,ps,rfl,_⟩:=h
    rfl
  · obtain ⟨p,q,d,ps,rfl,h,ok,ht,hd,k⟩:=h
    unfold FtAt at h
    obtain ⟨a,dx,t,xs,e,h,hts,hfs⟩:=h
    cases e
    unfold okT at ok
    have k':∀ H',Same H H' → Q (.bl (ps.any (holdsT d))) H':=fun H' s'=>by have:=k H' s'; unfold holdsT at this; rw [holdsE_any] at this; exact this
    refine ⟨_,(@pss_cons _ _ _ _ _ (ps_for PassesOwn.never rfl (pi_tup (pe_fld (pv 0) rfl)) (pg_name (i:=2) sc_Any_holds.nd rfl (Or.inl rfl))
      (@pss_one _ _ _ (ps_if (pt_val (pe_either (pe_either (pe_either (pe_either (pe_either (pe_either (pe_either (pe_meth (pv 2) T.cl_Has ME_Has_holds G_Has_holds (hr.mono (by omega)) B_Has_holds .nil pass0 (pa_cons (pv 1) pa_nil)) (pe_meth (pv 2) T.cl_Many ME_Many_holds G_Many_holds (hr.mono (by omega)) B_Many_holds .nil pass0 (pa_cons (pv 1) pa_nil))) (pe_meth (pv 2) T.cl_Before ME_Before_holds G_Before_holds (hr.mono (by omega)) B_Before_holds .nil pass0 (pa_cons (pv 1) pa_nil))) (pe_meth (pv 2) T.cl_Under ME_Under_holds G_Under_holds (hr.mono (by omega)) B_Under_holds .nil pass0 (pa_cons (pv 1) pa_nil))) (pe_meth (pv 2) T.cl_Beside ME_Beside_holds G_Beside_holds (hr.mono (by omega)) B_Beside_holds .nil pass0 (pa_cons (pv 1) pa_nil))) (pe_meth (pv 2) T.cl_All ME_All_holds G_All_holds (hr.mono (by omega)) B_All_holds .nil pass0 (pa_cons (pv 1) pa_nil))) (pe_meth (pv 2) T.cl_Any ME_Any_holds G_Any_holds (hr.mono (by omega)) B_Any_holds .nil pass0 (pa_cons (pv 1) pa_nil))) (pe_meth (pv 2) T.cl_Not ME_Not_holds G_Not_holds (hr.mono (by omega)) B_Not_holds .nil pass0 (pa_cons (pv 1) pa_nil))))
      (@pss_one _ _ _ (ps_ret pe_bl))
      pss_nil)))
      (@pss_one _ _ _ (ps_ret pe_bl))),?_⟩
    refine tseq_open fun B hB=>?_
    refine (show tFor _ _ _ _ _ _ from ?_)
    refine (show iTup _ _ _ _ _ from ?_)
    refine ⟨_,rfl,p,_,dx,_,_,rfl,h,T.cl_Any,T.na_Any_parts,rfl,t,rfl,⟨_,SqT.of hts⟩,for_tup (xs:=xs) (fun i σ H'=>Same H H' ∧ ((ps.take i).any (holdsT d) = false) ∧ ∃ o:Option V,StIs σ [some (.ref p),some (.ref q),o]) ⟨Same.refl _,rfl,none,StIs.rfl⟩ (fun i σ H' _ ⟨e,_⟩=>SqT.of (e _ _ hts)) ?_ ?_⟩
    · rintro i x σ H' hx ⟨s1,hb,o,rfl⟩
      obtain ⟨pm,hpm,fpm⟩:=hfs.get hx
      have hmem:=List.mem_of_getElem? hpm
      have dpm:=dpL_mem hmem
      and_intros
      refine ft_pick (n:=n) (Q:=fun x_3 H1=>∃ c,x_3 = V.bl c ∧ if c = true then Q (V.bl true) H1 else Same H H1 ∧ ((List.take (i + 1) ps).any (holdsT d) = false) ∧ ∃ o,StIs [some (V.ref p),some (V.ref q),some x] [some (V.ref p),some (V.ref q),o]) (fpm.same s1) (okL_mem ok.2 hmem) (ht.same s1) (by omega) (fun H2 s2=>⟨_,rfl,?_⟩) (fun ⟨a,x,y,e,h1,h2,s⟩=>⟨a,e,x,y,h1,h2,s⟩) (fun ⟨a,x,y,e,h1,h2,s⟩=>⟨a,e,x,y,h1,h2,s⟩) (fun ⟨a,x,y,e,h1,h2,s⟩=>⟨a,e,x,y,h1,h2,s⟩) (fun ⟨a,x,y,e,h1,h2,s⟩=>⟨a,e,x,y,h1,h2,s⟩) (fun ⟨a,x,y,e,h1,h2,s⟩=>⟨a,e,x,y,h1,h2,s⟩) (fun ⟨a,x,y,e,h1,h2,s⟩=>⟨a,e,x,y,h1,h2,s⟩) (fun ⟨a,x,y,e,h1,h2,s⟩=>⟨a,e,x,y,h1,h2,s⟩) (fun ⟨a,x,y,e,h1,h2,s⟩=>⟨a,e,x,y,h1,h2,s⟩)
      by_cases hc:holdsT d pm = true
      · rw [if_pos hc]
        have:=k' H2 (s1.trans s2)
        rw [show ps.any (holdsT d) = true from List.any_eq_true.mpr ⟨pm,hmem,hc⟩] at this
        exact this
      · rw [if_neg hc]
        refine ⟨s1.trans s2,?_,_,StIs.rfl⟩
        rw [List.take_add_one,hpm]
        rw [List.any_append,hb,Bool.false_or]; show (holdsT d pm || false) = false; rw [Bool.or_false]; exact Bool.not_eq_true _ ▸ hc
    rintro σ H' ⟨s1,hb,o,rfl⟩
    dsimp only
    subst hB
    and_intros
    rw [hfs.length,List.take_length] at hb
    rw [hb] at k'
    exact k' H' s1
theorem ok_Not_holds {f:Addr} {fd:FuncData} {n:Nat} (F:Fun K "holds" "Not.holds" s_Not_holds f fd) (T:Txt K mg ad) {f_Has_holds:Addr} {fd_Has_holds:FuncData} (G_Has_holds:FnOk P w K mg base CX0 2 f_Has_holds fd_Has_holds ["self","thing"] (sp_Has_holds ad)) {f_Many_holds:Addr} {fd_Many_holds:FuncData} (G_Many_holds:FnOk P w K mg base CX0 2 f_Many_holds fd_Many_holds ["self","thing"] (sp_Many_holds ad)) {f_Before_holds:Addr} {fd_Before_holds:FuncData} (G_Before_holds:FnOk P w K mg base CX0 3 f_Before_holds fd_Before_holds ["self","thing"] (sp_Before_holds ad)) {f_Under_holds:Addr} {fd_Under_holds:FuncData} (G_Under_holds:FnOk P w K mg base CX0 4 f_Under_holds fd_Under_holds ["self","thing"] (sp_Under_holds ad)) {f_Beside_holds:Addr} {fd_Beside_holds:FuncData} (G_Beside_holds:FnOk P w K mg base CX0 4 f_Beside_holds fd_Beside_holds ["self","thing"] (sp_Beside_holds ad)) {f_All_holds:Addr} {fd_All_holds:FuncData} (G_All_holds:FnOk P w K mg base CX0 (n + 5) f_All_holds fd_All_holds ["self","thing"] (sp_All_holds ad n)) {f_Any_holds:Addr} {fd_Any_holds:FuncData} (G_Any_holds:FnOk P w K mg base CX0 (n + 5) f_Any_holds fd_Any_holds ["self","thing"] (sp_Any_holds ad n)) {f_Not_holds:Addr} {fd_Not_holds:FuncData} (G_Not_holds:FnOk P w K mg base CX0 (n + 5) f_Not_holds fd_Not_holds ["self","thing"] (sp_Not_holds ad n)) (B_Has_holds:Binds K fd_Has_holds ["self","thing"] []) (B_Many_holds:Binds K fd_Many_holds ["self","thing"] []) (B_Before_holds:Binds K fd_Before_holds ["self","thing"] []) (B_Under_holds:Binds K fd_Under_holds ["self","thing"] []) (B_Beside_holds:Binds K fd_Beside_holds ["self","thing"] []) (B_All_holds:Binds K fd_All_holds ["self","thing"] []) (B_Any_holds:Binds K fd_Any_holds ["self","thing"] []) (B_Not_holds:Binds K fd_Not_holds ["self","thing"] []) (ME_Has_holds:Meth K ad.Has "holds" f_Has_holds) (ME_Many_holds:Meth K ad.Many "holds" f_Many_holds) (ME_Before_holds:Meth K ad.Before "holds" f_Before_holds) (ME_Under_holds:Meth K ad.Under "holds" f_Under_holds) (ME_Beside_holds:Meth K ad.Beside "holds" f_Beside_holds) (ME_All_holds:Meth K ad.All "holds" f_All_holds) (ME_Any_holds:Meth K ad.Any "holds" f_Any_holds) (ME_Not_holds:Meth K ad.Not "holds" f_Not_holds):FnOk P w K mg base CX0 (n + 1 + 5) f fd ["self","thing"] (sp_Not_holds ad (n + 1)):=by
  refine F.ok sc_Not_holds (fun vs H Q E h=>?_) (fun cdv A outer s H vs Q E hr h=>?_)
  · obtain ⟨p,q,d,tm,rfl,_⟩:=h
    rfl
  · obtain ⟨p,q,d,tm,rfl,h,ok,ht,hd,k⟩:=h
    unfold FtAt at h
    obtain ⟨a,dx,x,e,h,hf⟩:=h
    cases e
    unfold okT at ok
    refine ⟨_,(@pss_one _ _ _ (ps_ret (pe_not (pe_either (pe_either (pe_either (pe_either (pe_either (pe_either (pe_either (pe_meth (pe_fld (pv 0) rfl) T.cl_Has ME_Has_holds G_Has_holds (hr.mono (by omega)) B_Has_holds .nil pass0 (pa_cons (pv 1) pa_nil)) (pe_meth (pe_fld (pv 0) rfl) T.cl_Many ME_Many_holds G_Many_holds (hr.mono (by omega)) B_Many_holds .nil pass0 (pa_cons (pv 1) pa_nil))) (pe_meth (pe_fld (pv 0) rfl) T.cl_Before ME_Before_holds G_Before_holds (hr.mono (by omega)) B_Before_holds .nil pass0 (pa_cons (pv 1) pa_nil))) (pe_meth (pe_fld (pv 0) rfl) T.cl_Under ME_Under_holds G_Under_holds (hr.mono (by omega)) B_Under_holds .nil pass0 (pa_cons (pv 1) pa_nil))) (pe_meth (pe_fld (pv 0) rfl) T.cl_Beside ME_Beside_holds G_Beside_holds (hr.mono (by omega)) B_Beside_holds .nil pass0 (pa_cons (pv 1) pa_nil))) (pe_meth (pe_fld (pv 0) rfl) T.cl_All ME_All_holds G_All_holds (hr.mono (by omega)) B_All_holds .nil pass0 (pa_cons (pv 1) pa_nil))) (pe_meth (pe_fld (pv 0) rfl) T.cl_Any ME_Any_holds G_Any_holds (hr.mono (by omega)) B_Any_holds .nil pass0 (pa_cons (pv 1) pa_nil))) (pe_meth (pe_fld (pv 0) rfl) T.cl_Not ME_Not_holds G_Not_holds (hr.mono (by omega)) B_Not_holds .nil pass0 (pa_cons (pv 1) pa_nil)))))),?_⟩
    and_intros
    refine ft_pick (n:=n) (Q:=fun x H1=>∃ c,x = V.bl c ∧ Q (V.bl !c) H1) hf ok ht (by omega) (fun H' s'=>⟨_,rfl,by have:=k H' s'; unfold holdsT at this; exact this⟩) (fun ⟨a,x,y,e,h1,h2,s⟩=>⟨_,_,_,h,T.cl_Not,T.na_Not_part,_,rfl,a,e,x,y,h1,h2,s⟩) (fun ⟨a,x,y,e,h1,h2,s⟩=>⟨_,_,_,h,T.cl_Not,T.na_Not_part,_,rfl,a,e,x,y,h1,h2,s⟩) (fun ⟨a,x,y,e,h1,h2,s⟩=>⟨_,_,_,h,T.cl_Not,T.na_Not_part,_,rfl,a,e,x,y,h1,h2,s⟩) (fun ⟨a,x,y,e,h1,h2,s⟩=>⟨_,_,_,h,T.cl_Not,T.na_Not_part,_,rfl,a,e,x,y,h1,h2,s⟩) (fun ⟨a,x,y,e,h1,h2,s⟩=>⟨_,_,_,h,T.cl_Not,T.na_Not_part,_,rfl,a,e,x,y,h1,h2,s⟩) (fun ⟨a,x,y,e,h1,h2,s⟩=>⟨_,_,_,h,T.cl_Not,T.na_Not_part,_,rfl,a,e,x,y,h1,h2,s⟩) (fun ⟨a,x,y,e,h1,h2,s⟩=>⟨_,_,_,h,T.cl_Not,T.na_Not_part,_,rfl,a,e,x,y,h1,h2,s⟩) (fun ⟨a,x,y,e,h1,h2,s⟩=>⟨_,_,_,h,T.cl_Not,T.na_Not_part,_,rfl,a,e,x,y,h1,h2,s⟩)
theorem ok_Not_init {f:Addr} {fd:FuncData} (F:Fun K "__init__" "Not.__init__" s_Not_init f fd) (T:Txt K mg ad):FnOk P w K mg base CX0 1 f fd ["self","part"] (sp_Not_init ad):=by
  refine F.ok sc_Not_init (fun vs H Q E h=>?_) (fun cdv A outer s H vs Q E hr h=>?_)
  · obtain ⟨p,dx,x,rfl,_⟩:=h
    rfl
  · obtain ⟨p,dx,x,rfl,h,k⟩:=h
    refine ⟨_,(@pss_one _ _ _ (ps_fld (pv 0) (pv 1) rfl)),?_⟩
    and_intros
    exact ⟨ad.Not,dx,[],h,T.cl_Not,T.na_Not_part,by decide,k⟩
theorem ok_is_whole {f:Addr} {fd:FuncData} (D:Def K mg "is_whole" s_is_whole ["thing"] f fd) (T:Txt K mg ad):FnOk P w K mg base CX0 1 f fd ["thing"] sp_is_whole:=by
  refine D.F.ok sc_is_whole (fun vs H Q E h=>?_) (fun cdv A outer s H vs Q E hr h=>?_)
  · obtain ⟨v,rfl,_⟩:=h
    rfl
  · obtain ⟨v,rfl,t,k⟩:=h
    obtain ⟨y,ty,_,e2,e3⟩:=t.ty (K:=K)
    refine ⟨_,(@pss_one _ _ _ (ps_ret (pe_and (pe_callB call_isiT rfl T.isinstance PyProof.Rows.boot_isinstance (pa_cons (pv 0) (pa_cons (pe_ty rfl T.int PyProof.Rows.boot_int) pa_nil))) (pe_one (pe_not (pe_callB call_isiT rfl T.isinstance PyProof.Rows.boot_isinstance (pa_cons (pv 0) (pa_cons (pe_ty rfl T.bool PyProof.Rows.boot_bool) pa_nil)))))))),?_⟩
    and_intros
    refine ⟨y,ty,_,e2,?_⟩
    cases t with
    | non=>exact iteF k
    | str x h=>exact iteF k
    | lst h=>exact iteF k
    | tup h=>exact iteF k
    | bl b=>exact iteT ⟨y,ty,_,e3,k⟩
    | int i=>exact iteT ⟨y,ty,_,e3,k⟩
theorem ok_is_mark {f:Addr} {fd:FuncData} (D:Def K mg "is_mark" s_is_mark ["thing"] f fd) (T:Txt K mg ad):FnOk P w K mg base CX0 1 f fd ["thing"] sp_is_mark:=by
  refine D.F.ok sc_is_mark (fun vs H Q E h=>?_) (fun cdv A outer s H vs Q E hr h=>?_)
  · obtain ⟨v,rfl,_⟩:=h
    rfl
  · obtain ⟨v,rfl,t,k⟩:=h
    obtain ⟨tk_LETTERS,h_LETTERS⟩:=T.g_LETTERS
    obtain ⟨tk_LONGEST_MARK,h_LONGEST_MARK⟩:=T.g_LONGEST_MARK
    obtain ⟨y,ty,e1,_,_⟩:=t.ty (K:=K)
    refine ⟨_,(@pss_cons _ _ _ _ _ (ps_if (pt_not (pt_val (pe_callB call_isiT rfl T.isinstance PyProof.Rows.boot_isinstance (pa_cons (pv 0) (pa_cons (pe_ty rfl T.str PyProof.Rows.boot_str) pa_nil)))))
      (@pss_one _ _ _ (ps_ret pe_bl))
      pss_nil)
      (@pss_cons _ _ _ _ _ (ps_if (pt_not (pt_chain op_le op_le pe_int (pe_callB call_len_str rfl T.len PySem.boot_len (pa_cons (pv 0) pa_nil)) (pe_glob (v:=.int 8) rfl h_LONGEST_MARK ⟨_,rfl⟩)))
      (@pss_one _ _ _ (ps_ret pe_bl))
      pss_nil)
      (@pss_one _ _ _ (ps_ret (pe_callB (call_all rfl) rfl T.all (by decide +kernel) (pa_cons (pe_comp (own:=["sign"]) (cap:=[]) (ix:=[]) rfl (show CompScope ["thing"] (defScope s_is_mark) _ ["sign"] [] [] from ⟨rfl,by decide +kernel,by decide +kernel,by decide +kernel,by decide +kernel,by decide +kernel,by decide +kernel,rfl,by decide +kernel⟩) (pi_str (pv 0)) (fun C s₀ H₀ ex pn=>⟨pg_name (i:=0) (show (["sign"]:List Str).Nodup by decide +kernel) rfl (Or.inl rfl),pifs_nil,(pe_cmpR op_in_str (pv 0) (pe_glob (v:=.str LET) rfl h_LETTERS ⟨_,rfl⟩) rfl)⟩)) pa_nil)))))),?_⟩
    refine ⟨_,rfl,v,"str",y,_,rfl,ty,e1,_,rfl,?_⟩
    cases t with
    | non=>exact iteT (k H (Same.refl H))
    | int i=>exact iteT (k H (Same.refl H))
    | bl b=>exact iteT (k H (Same.refl H))
    | lst h=>exact iteT (k H (Same.refl H))
    | tup h=>exact iteT (k H (Same.refl H))
    | str x hx =>
      refine iteF ?_
      have hz:x.length ≤ sizeLine:=Nat.le_of_lt (small1000 hx)
      refine ⟨_,rfl,x,rfl,hz,_,_,rfl,rfl,_,rfl,?_⟩
      have km:∀ H',Same H H' → Q (.bl (markS x)) H':=k
      refine ite2 (fun h1=>?_) (fun h1=>?_)
      · have h1:1 ≤ x.length:=by have:=of_decide_eq_true h1; omega
        refine ⟨_,_,rfl,rfl,_,rfl,?_⟩
        refine ite2 (fun h2=>?_) (fun h2=>?_)
        · have h2:¬ x.length ≤ 8:=by simp at h2; omega
          have e:markS x = false:=by unfold markS; rw [decide_eq_false h2]; simp
          rw [e] at km
          exact km H (Same.refl H)
        · have h2:x.length ≤ 8:=by simp at h2; omega
          dsimp only [tNext,tRet,tCB,tCons]
          refine tcomp_str (z:=x) (fun R r=>⟨_,rfl,x,rfl,r⟩) (fun i ys H'=>H' = H ∧ ∃ bs:List Bool,ys = bs.map V.bl ∧ bs.length = i ∧ bs.all id = (x.cps.toList.take i).all letC) ⟨rfl,[],rfl,rfl,by simp⟩ ?_ ?_
          · rintro i c ys H' R hc ⟨rfl,bs,rfl,hb1,hb2⟩ hR
            refine ⟨_,rfl,_,_,rfl,rfl,?_,hR _ _ ⟨rfl,bs ++ [letC c],by simp [letC],by simp [hb1],?_⟩⟩
            · rw [List.length_map,hb1]
              have:i < x.cps.size:=(Array.getElem?_eq_some_iff.mp hc).1
              have hx':x.cps.size = x.length:=rfl
              omega
            · rw [all_take_succ (by simpa using hc),← hb2]
              simp
          · rintro ys H' ⟨rfl,bs,rfl,hb1,hb2⟩
            refine ⟨?_,fun Dd hD=>⟨Dd,bs,rfl,SqL.of upd_same,?_⟩⟩
            · rw [List.length_map,hb1]; exact hz
            · have e:bs.all id = markS x:=by
                rw [hb2,List.take_of_length_le (by simp)]
                unfold markS
                rw [decide_eq_true h1,decide_eq_true h2]
                simp
              rw [e]
              exact km _ fun b o q=>by rw [upd_ne (ne_of_none q hD)]; exact q
      · have h1:¬ 1 ≤ x.length:=by
          have q:(x.length:Int) < 1:=by simpa using h1
          omega
        have e:markS x = false:=by unfold markS; rw [decide_eq_false h1]; simp
        rw [e] at km
        exact ⟨_,rfl,iteT (km H (Same.refl H))⟩
theorem ok_check_list {f:Addr} {fd:FuncData} (D:Def K mg "check_list" s_check_list ["thing","most"] f fd) (T:Txt K mg ad):FnOk P w K mg base (CX1 P w) 1 f fd ["thing","most"] (sp_check_list ad):=by
  refine D.F.okX sc_check_list (fun vs H Q E h=>?_) (fun cdv A outer s H vs Q E hr h=>?_)
  · obtain ⟨v,n,rfl,_⟩:=h
    rfl
  · obtain ⟨v,n,rfl,t,kg,kb⟩:=h
    obtain ⟨y,b,ty,e,hb⟩:=t.isList (K:=K)
    refine ⟨_,(@pss_cons _ _ _ _ _ (ps_if (pt_not (pt_val (pe_callB call_isiT rfl T.isinstance PyProof.Rows.boot_isinstance (pa_cons (pv 0) (pa_cons (pe_ty rfl T.list PyProof.Rows.boot_list) pa_nil)))))
      (@pss_one _ _ _ (ps_raise T.e_NoThing rfl raises1 rfl (pa_cons pe_str pa_nil)))
      pss_nil)
      (@pss_one _ _ _ (ps_if (pt_cmpR op_gt (pe_callB call_lenL rfl T.len PySem.boot_len (pa_cons (pv 0) pa_nil)) (pv 1) (nomark _))
      (@pss_one _ _ _ (ps_raise T.e_NoThing rfl raises1 rfl (pa_cons pe_str pa_nil)))
      pss_nil))),?_⟩
    and_intros
    refine ⟨y,ty,b,e,?_⟩
    have h1:1 ≤ sizeLine:=by decide
    rcases hb with ⟨rfl,a,xs,rfl,ha⟩ | ⟨rfl,hb⟩
    · refine ite2 (fun z=>nomatch z) fun _=>⟨a,rfl,xs,SqL.of ha,ite2 (fun h=>⟨h1,kb ?_⟩) fun h=>kg ⟨a,xs,rfl,ha,by omega⟩⟩
      rintro ⟨a',xs',e',h',l'⟩
      cases e'
      rw [ha] at h'
      cases h'
      omega
    · refine ite2 (fun _=>⟨h1,kb ?_⟩) fun z=>absurd rfl z
      rintro ⟨a',xs',e',h',l'⟩
      exact hb a' xs' e' h'
theorem ok_check_marks {f:Addr} {fd:FuncData} (D:Def K mg "check_marks" s_check_marks ["marks","most"] f fd) (T:Txt K mg ad) {f_check_list:Addr} {fd_check_list:FuncData} (G_check_list:FnOk P w K mg base (CX1 P w) 1 f_check_list fd_check_list ["thing","most"] (sp_check_list ad)) {f_is_mark:Addr} {fd_is_mark:FuncData} (G_is_mark:FnOk P w K mg base CX0 1 f_is_mark fd_is_mark ["thing"] sp_is_mark) (D_check_list:Def K mg "check_list" s_check_list ["thing","most"] f_check_list fd_check_list) (D_is_mark:Def K mg "is_mark" s_is_mark ["thing"] f_is_mark fd_is_mark):FnOk P w K mg base (CX1 P w) 2 f fd ["marks","most"] (sp_check_marks ad):=by
  refine D.F.okX sc_check_marks (fun vs H Q E h=>?_) (fun cdv A outer s H vs Q E hr h=>?_)
  · obtain ⟨v,n,rfl,_⟩:=h
    rfl
  · obtain ⟨v,n,rfl,t,kg,kb⟩:=h
    refine ⟨_,(@pss_cons _ _ _ _ _ (ps_expr (pe_call G_check_list (hr.mono (by decide)) rfl D_check_list.mg D_check_list.F.kp D_check_list.b .nil pass1 (pa_cons (pv 0) (pa_cons (pv 1) pa_nil))))
      (@pss_one _ _ _ (ps_for PassesOwn.leaving rfl (pi_list (pv 0)) (pg_name (i:=2) sc_check_marks.nd rfl (Or.inl rfl))
      (@pss_one _ _ _ (ps_if (pt_not (pt_val (pe_call G_is_mark (hr.mono (by decide)) rfl D_is_mark.mg D_is_mark.F.kp D_is_mark.b .nil pass0 (pa_cons (pv 2) pa_nil))))
      (@pss_one _ _ _ (ps_raise T.e_NoThing rfl raises1 rfl (pa_cons pe_str pa_nil)))
      pss_nil))))),?_⟩
    and_intros
    refine ⟨v,n,rfl,t.1,fun hg=>?_,fun hb=>kb (fun ⟨a,xs,e,h,l,_⟩=>hb ⟨a,xs,e,h,l⟩) H (Same.refl H)⟩
    obtain ⟨a,xs,rfl,ha,hl⟩:=hg
    refine ⟨_,rfl,a,rfl,⟨_,SqL.of ha⟩,for_list (xs:=xs) (fun i σ H'=>Same H H' ∧ (xs.take i).all markV = true ∧ ∃ o,σ = [some (.ref a),some (.int n),o]) ⟨Same.refl H,by simp,_,rfl⟩ ?_ ?_ ?_⟩
    · rintro i σ H' _ ⟨s1,_,_⟩
      exact SqL.of (s1 _ _ ha)
    · rintro i x σ H' hx ⟨s1,h1,o,rfl⟩
      and_intros
      refine ⟨x,rfl,(t.2 a xs rfl ha x (List.mem_of_getElem? hx)).same s1,fun H2 s2=>?_⟩
      and_intros
      have h3:(xs.take (i + 1)).all markV = ((xs.take i).all markV && markV x):=by rw [List.take_add_one,hx]; simp
      refine ite2 (fun h2=>⟨by decide,kb ?_ H2 (s1.trans s2)⟩) fun h2=>⟨s1.trans s2,?_,_,rfl⟩
      · rintro ⟨a',xs',e',h',l',m'⟩
        cases e'
        rw [ha] at h'
        cases h'
        have:=List.all_eq_true.mp m' x (List.mem_of_getElem? hx)
        rw [h2] at this
        cases this
      · rw [h3,h1]
        cases hm:markV x
        · exact absurd hm h2
        · rfl
    · rintro σ H' ⟨s1,h1,o,rfl⟩
      rw [List.take_length] at h1
      exact kg ⟨a,xs,rfl,ha,hl,h1⟩ H' s1
theorem ok_check_node {f:Addr} {fd:FuncData} (D:Def K mg "check_node" s_check_node ["node","deepest"] f fd) (T:Txt K mg ad) {f_is_mark:Addr} {fd_is_mark:FuncData} (G_is_mark:FnOk P w K mg base CX0 1 f_is_mark fd_is_mark ["thing"] sp_is_mark) {f_is_whole:Addr} {fd_is_whole:FuncData} (G_is_whole:FnOk P w K mg base CX0 1 f_is_whole fd_is_whole ["thing"] sp_is_whole) (D_is_mark:Def K mg "is_mark" s_is_mark ["thing"] f_is_mark fd_is_mark) (D_is_whole:Def K mg "is_whole" s_is_whole ["thing"] f_is_whole fd_is_whole):FnOk P w K mg base (CX1 P w) 2 f fd ["node","deepest"] (sp_check_node ad):=by
  refine D.F.okX sc_check_node (fun vs H Q E h=>?_) (fun cdv A outer s H vs Q E hr h=>?_)
  · obtain ⟨v,d,rfl,_⟩:=h
    rfl
  · obtain ⟨v,d,rfl,t,kg,kb⟩:=h
    obtain ⟨y,b,ty,e,hb⟩:=t.1.isTup (K:=K)
    refine ⟨_,(@pss_cons _ _ _ _ _ (ps_if (PW.pt (pw_or (pt_not (pt_val (pe_callB call_isiT rfl T.isinstance PyProof.Rows.boot_isinstance (pa_cons (pv 0) (pa_cons (pe_ty rfl T.tuple PyProof.Rows.boot_tuple) pa_nil))))) (pw_or1 (pt_cmpR op_ne (pe_callB call_lenT rfl T.len PySem.boot_len (pa_cons (pv 0) pa_nil)) pe_int (nomark _)))))
      (@pss_one _ _ _ (ps_raise T.e_NoThing rfl raises1 rfl (pa_cons pe_str pa_nil)))
      pss_nil)
      (@pss_cons _ _ _ _ _ (ps_if (pt_not (pt_val (pe_call G_is_mark (hr.mono (by decide)) rfl D_is_mark.mg D_is_mark.F.kp D_is_mark.b .nil pass0 (pa_cons (pe_ix ix_tup (pv 0) pe_int (fun _ _=>rfl)) pa_nil))))
      (@pss_one _ _ _ (ps_raise T.e_NoThing rfl raises1 rfl (pa_cons pe_str pa_nil)))
      pss_nil)
      (@pss_one _ _ _ (ps_if (PW.pt (pw_or (pt_not (pt_val (pe_call G_is_whole (hr.mono (by decide)) rfl D_is_whole.mg D_is_whole.F.kp D_is_whole.b .nil pass0 (pa_cons (pe_ix ix_tup (pv 0) pe_int (fun _ _=>rfl)) pa_nil)))) (pw_or1 (pt_not (pt_chain op_le op_le pe_int (pe_ix ix_tup (pv 0) pe_int (fun _ _=>rfl)) (pv 1))))))
      (@pss_one _ _ _ (ps_raise T.e_NoThing rfl raises1 rfl (pa_cons pe_str pa_nil)))
      pss_nil)))),?_⟩
    and_intros
    refine ⟨y,ty,b,e,?_⟩
    have h1:1 ≤ sizeLine:=by decide
    rcases hb with ⟨rfl,a,xs,rfl,ha⟩ | ⟨rfl,hb⟩
    · and_intros
      have no:xs.length ≠ 2 → ∀ n,¬ NodeAt H (.ref a) n:=fun h n ⟨a',e',h'⟩=>by
        cases e'
        rw [ha] at h'
        cases h'
        exact h rfl
      refine ⟨xs,SqT.of ha,ite2 (fun h2=>⟨h1,kb (fun n hn=>absurd hn (no (by omega) n)) H (Same.refl H)⟩) fun h2=>?_⟩
      obtain ⟨x0,x1,rfl⟩:∃ x0 x1,xs = [x0,x1]:=by
        match xs,h2 with
        | [],h=>simp at h
        | [_],h=>simp at h
        | [x0,x1],_=>exact ⟨x0,x1,rfl⟩
        | _ :: _ :: _ :: r,h=>simp at h; omega
      have tx:∀ n,NodeAt H (.ref a) n → x0 = .str n.1 ∧ x1 = .int n.2:=fun n ⟨a',e',h'⟩=>by
        cases e'
        rw [ha] at h'
        simp at h'
        exact h'
      refine ⟨_,SqT.of ha,x0,rfl,x0,rfl,t.2 a _ rfl ha x0 (by simp),fun H1 s1=>⟨_,rfl,ite2 (fun hm=>⟨h1,kb (fun n hn=>?_) H1 s1⟩) fun hm=>?_⟩⟩
      · obtain ⟨e0,_⟩:=tx n hn
        subst e0
        rintro ⟨m1,_⟩
        exact absurd m1 (by rw [show markS n.1 = false from hm]; decide)
      · refine ⟨_,SqT.of (s1 _ _ ha),x1,rfl,x1,rfl,(t.2 a _ rfl ha x1 (by simp)).same s1,_,rfl,ite2 (fun hw=>⟨h1,kb (fun n hn=>?_) H1 s1⟩) fun hw=>?_⟩
        · obtain ⟨_,e1⟩:=tx n hn
          subst e1
          cases hw
        · obtain ⟨m,e0⟩:∃ m,x0 = .str m:=by
            cases x0 with
            | str m=>exact ⟨m,rfl⟩
            | _=>exact absurd rfl hm
          obtain ⟨k,e1⟩:∃ k,x1 = .int k:=by
            cases x1 with
            | int k=>exact ⟨k,rfl⟩
            | _=>exact absurd rfl hw
          subst e0 e1
          have hm':markS m = true:=by
            cases q:markS m
            · exact absurd q hm
            · rfl
          refine ⟨_,SqT.of (s1 _ _ ha),.int k,rfl,k,rfl,ite2 (fun h0=>⟨k,rfl,ite2 (fun h3=>⟨h1,kb (fun n hn=>?_) H1 s1⟩) fun h3=>?_⟩) fun h0=>⟨h1,kb (fun n hn=>?_) H1 s1⟩⟩
          · obtain ⟨_,e1⟩:=tx n hn
            cases e1
            rintro ⟨_,_,z⟩
            exact h3 z
          · exact kg (m,k) ⟨a,rfl,ha⟩ hm' h0 (by omega) H1 s1
          · obtain ⟨_,e1⟩:=tx n hn
            cases e1
            rintro ⟨_,z,_⟩
            exact h0 z
    · refine ite2 (fun _=>⟨h1,kb (fun n hn=>?_) H (Same.refl H)⟩) fun z=>absurd rfl z
      obtain ⟨a,e,h⟩:=hn
      exact absurd h (hb a _ e)
theorem ok_check_nodes {f:Addr} {fd:FuncData} (D:Def K mg "check_nodes" s_check_nodes ["nodes"] f fd) (T:Txt K mg ad) {f_check_list:Addr} {fd_check_list:FuncData} (G_check_list:FnOk P w K mg base (CX1 P w) 1 f_check_list fd_check_list ["thing","most"] (sp_check_list ad)) {f_check_node:Addr} {fd_check_node:FuncData} (G_check_node:FnOk P w K mg base (CX1 P w) 2 f_check_node fd_check_node ["node","deepest"] (sp_check_node ad)) (D_check_list:Def K mg "check_list" s_check_list ["thing","most"] f_check_list fd_check_list) (D_check_node:Def K mg "check_node" s_check_node ["node","deepest"] f_check_node fd_check_node):FnOk P w K mg base (CX1 P w) 3 f fd ["nodes"] (sp_check_nodes ad):=by
  refine D.F.okX sc_check_nodes (fun vs H Q E h=>?_) (fun cdv A outer s H vs Q E hr h=>?_)
  · obtain ⟨v,rfl,_⟩:=h
    rfl
  · obtain ⟨v,rfl,t,kg,kb⟩:=h
    obtain ⟨tk_MOST_NODES,h_MOST_NODES⟩:=T.g_MOST_NODES
    obtain ⟨tk_DEEPEST,h_DEEPEST⟩:=T.g_DEEPEST
    refine ⟨_,(@pss_cons _ _ _ _ _ (ps_expr (pe_call G_check_list (hr.mono (by decide)) rfl D_check_list.mg D_check_list.F.kp D_check_list.b .nil pass1 (pa_cons (pv 0) (pa_cons (pe_glob (v:=.int 40) rfl h_MOST_NODES ⟨_,rfl⟩) pa_nil))))
      (@pss_cons _ _ _ _ _ (ps_set (i:=1) sc_check_nodes.nd rfl (Or.inl rfl) pe_int)
      (@pss_one _ _ _ (ps_for PassesOwn.leaving rfl (pi_list (pv 0)) (pg_name (i:=2) sc_check_nodes.nd rfl (Or.inl rfl))
      (@pss_cons _ _ _ _ _ (ps_expr (pe_call G_check_node (hr.mono (by decide)) rfl D_check_node.mg D_check_node.F.kp D_check_node.b .nil pass1 (pa_cons (pv 2) (pa_cons (pv 1) pa_nil))))
      (@pss_one _ _ _ (ps_set (i:=1) sc_check_nodes.nd rfl (Or.inl rfl) (pe_callB (call_min2 rfl) rfl T.min (by decide +kernel) (pa_cons (pe_op op_add (pe_ix ix_tup (pv 2) pe_int (fun _ _=>rfl)) pe_int) (pa_cons (pe_glob (v:=.int 12) rfl h_DEEPEST ⟨_,rfl⟩) pa_nil)))))))))),?_⟩
    and_intros
    refine ⟨v,40,rfl,t.1,fun hg=>?_,fun hb=>kb (fun ⟨a,xs,ns,e,h,l,_⟩=>hb ⟨a,xs,e,h,l⟩) H (Same.refl H)⟩
    obtain ⟨a,xs,rfl,ha,hl⟩:=hg
    refine ⟨_,rfl,a,rfl,⟨_,SqL.of ha⟩,for_list (xs:=xs) (fun i σ H'=>Same H H' ∧ ∃ (ns:List Nd) (o:Option V),NodesAt H (xs.take i) ns ∧ depthOk 0 ns ∧ StIs σ [some (.ref a),some (.int (deepAfter 0 ns)),o]) ⟨Same.refl H,[],none,by simp [NodesAt],trivial,StIs.rfl⟩ ?_ ?_ ?_⟩
    · rintro i σ H' _ ⟨s1,_⟩
      exact SqL.of (s1 _ _ ha)
    · rintro i x σ H' hx ⟨s1,ns,o,hn,hd,rfl⟩
      and_intros
      have tx:=t.2 a xs rfl ha x (List.mem_of_getElem? hx)
      have ex:xs.take (i + 1) = xs.take i ++ [x]:=by rw [List.take_add_one,hx]; rfl
      refine ⟨x,_,rfl,tx.same s1,fun n hn1 m1 m2 m3 H2 s2=>?_,fun hb H2 s2=>kb ?_ H2 (s1.trans s2)⟩
      · have hn0:=hn1.back tx.1 s1
        obtain ⟨tt,e,h2⟩:=hn1
        subst e
        and_intros
        refine ⟨_,SqT.of (s2 _ _ h2),_,rfl,_,rfl,s1.trans s2,ns ++ [n],?_,?_,some (.ref tt),?_⟩
        · rw [ex]; exact hn.append ⟨hn0,trivial⟩
        · exact depthOk_append.mpr ⟨hd,m1,m2,m3,trivial⟩
        · have e:deepAfter 0 (ns ++ [n]) = if 12 < n.2 + 1 then 12 else n.2 + 1:=by
            rw [deepAfter_append]
            show min (n.2 + 1) 12 = _
            split <;> omega
          rw [e]
          exact StIs.rfl
      · have e:xs = xs.take i ++ x :: xs.drop (i + 1):=by
          have h:=List.take_append_drop (i + 1) xs
          rw [ex,List.append_assoc] at h
          exact h.symm
        rw [e] at ha
        exact notN_mid ha hn fun n hn'=>hb n (hn'.same s1)
    · rintro σ H' ⟨s1,ns,o,hn,hd,rfl⟩
      rw [List.take_length] at hn
      exact kg ⟨a,xs,ns,rfl,ha,hl,hn,hd⟩ H' s1
theorem ok_check_lines {f:Addr} {fd:FuncData} (D:Def K mg "check_lines" s_check_lines ["lines"] f fd) (T:Txt K mg ad) {f_check_list:Addr} {fd_check_list:FuncData} (G_check_list:FnOk P w K mg base (CX1 P w) 1 f_check_list fd_check_list ["thing","most"] (sp_check_list ad)) {f_check_marks:Addr} {fd_check_marks:FuncData} (G_check_marks:FnOk P w K mg base (CX1 P w) 2 f_check_marks fd_check_marks ["marks","most"] (sp_check_marks ad)) (D_check_list:Def K mg "check_list" s_check_list ["thing","most"] f_check_list fd_check_list) (D_check_marks:Def K mg "check_marks" s_check_marks ["marks","most"] f_check_marks fd_check_marks):FnOk P w K mg base (CX1 P w) 3 f fd ["lines"] (sp_check_lines ad):=by
  refine D.F.okX sc_check_lines (fun vs H Q E h=>?_) (fun cdv A outer s H vs Q E hr h=>?_)
  · obtain ⟨v,rfl,_⟩:=h
    rfl
  · obtain ⟨v,rfl,t,kg,kb⟩:=h
    obtain ⟨tk_MOST_LINES,h_MOST_LINES⟩:=T.g_MOST_LINES
    obtain ⟨tk_MOST_COLUMNS,h_MOST_COLUMNS⟩:=T.g_MOST_COLUMNS
    refine ⟨_,(@pss_cons _ _ _ _ _ (ps_expr (pe_call G_check_list (hr.mono (by decide)) rfl D_check_list.mg D_check_list.F.kp D_check_list.b .nil pass1 (pa_cons (pv 0) (pa_cons (pe_glob (v:=.int 12) rfl h_MOST_LINES ⟨_,rfl⟩) pa_nil))))
      (@pss_one _ _ _ (ps_for PassesOwn.leaving rfl (pi_list (pv 0)) (pg_name (i:=1) sc_check_lines.nd rfl (Or.inl rfl))
      (@pss_cons _ _ _ _ _ (ps_expr (pe_call G_check_marks (hr.mono (by decide)) rfl D_check_marks.mg D_check_marks.F.kp D_check_marks.b .nil pass1 (pa_cons (pv 1) (pa_cons (pe_glob (v:=.int 12) rfl h_MOST_COLUMNS ⟨_,rfl⟩) pa_nil))))
      (@pss_one _ _ _ (ps_if (pt_cmpR op_ne (pe_callB call_lenL rfl T.len PySem.boot_len (pa_cons (pv 1) pa_nil)) (pe_callB call_lenL rfl T.len PySem.boot_len (pa_cons (pe_ix ix_list (pv 0) pe_int (fun _ _=>rfl)) pa_nil)) (nomark _))
      (@pss_one _ _ _ (ps_raise T.e_NoThing rfl raises1 rfl (pa_cons pe_str pa_nil)))
      pss_nil)))))),?_⟩
    and_intros
    refine ⟨v,12,rfl,t.1,fun hg=>?_,fun hb=>kb (fun ⟨a,xs,ns,e,h,l,_⟩=>hb ⟨a,xs,e,h,l⟩) H (Same.refl H)⟩
    obtain ⟨a,xs,rfl,ha,hl⟩:=hg
    refine ⟨_,rfl,a,rfl,⟨_,SqL.of ha⟩,for_list (xs:=xs) (fun i σ H'=>Same H H' ∧ ∃ (ls:List (List V)) (o:Option V),RowsAt .lst H (xs.take i) ls ∧ tabOk ls ∧ StIs σ [some (.ref a),o]) ⟨Same.refl H,[],none,by simp [RowsAt],⟨0,Nat.zero_le _,fun _ z=>nomatch z⟩,StIs.rfl⟩ ?_ ?_ ?_⟩
    · rintro i σ H' _ ⟨s1,_⟩
      exact SqL.of (s1 _ _ ha)
    · rintro i x σ H' hx ⟨s1,ls,o,hn,hd,rfl⟩
      and_intros
      have xm:=List.mem_of_getElem? hx
      have tx:=t.2 a xs rfl ha x xm
      have ex:xs.take (i + 1) = xs.take i ++ [x]:=by rw [List.take_add_one,hx]; rfl
      refine ⟨x,12,rfl,tx.same s1,fun hg H2 s2=>?_,fun hb H2 s2=>kb ?_ H2 (s1.trans s2)⟩
      · obtain ⟨c,ys,rfl,hc,hl2,hm2⟩:=hg
        have hc0:=tx.1.back s1 rfl hc
        have s12:=s1.trans s2
        have hn':RowsAt .lst H (xs.take (i + 1)) (ls ++ [ys]):=by rw [ex]; exact hn.append ⟨⟨c,rfl,hc0⟩,trivial⟩
        have hi:i < xs.length:=(List.getElem?_eq_some_iff.mp hx).1
        have h0:(xs.take (i + 1))[0]? = some xs[0]:=by rw [List.getElem?_take_of_lt (by omega)]; exact List.getElem?_eq_getElem (by omega)
        obtain ⟨y0,ey0,c0,ec0,hc00⟩:=hn'.get h0
        and_intros
        refine ⟨_,SqL.of (s12 _ _ hc0),_,SqL.of (s12 _ _ ha),xs[0],atI_nat (j:=0) (List.getElem?_eq_getElem (by omega)),c0,ec0,_,SqL.of (s12 _ _ hc00),ite2 (fun hne=>?_) fun heq=>?_⟩
        · refine ⟨by decide,kb (notT_two ha (b:=xs[0]) (c:=.ref c) (List.getElem_mem _) xm ⟨c0,ec0,hc00⟩ ⟨c,rfl,hc0⟩ ?_) H2 s12⟩
          intro z
          exact hne (by rw [z])
        · refine ⟨s12,ls ++ [ys],hn',?_,some (.ref c),StIs.rfl⟩
          have heq':ys.length = y0.length:=by
            by_cases z:ys.length = y0.length
            · exact z
            · exact absurd (fun q=>z (by omega)) heq
          cases ls with
          | nil=>exact ⟨ys.length,hl2,fun l h=>by rw [List.mem_singleton.mp h]; exact ⟨rfl,hm2⟩⟩
          | cons l0 r =>
            have e0:l0 = y0:=by simpa using ey0
            subst e0
            obtain ⟨w,hw,hall⟩:=hd
            refine ⟨w,hw,fun l h=>?_⟩
            rcases List.mem_append.mp h with h | h
            · exact hall l h
            · rw [List.mem_singleton.mp h]
              exact ⟨heq'.trans (hall l0 List.mem_cons_self).1,hm2⟩
      · exact notT_mem ha xm fun g=>hb (GoodM.same s1 g)
    · rintro σ H' ⟨s1,ls,o,hn,hd,rfl⟩
      rw [List.take_length] at hn
      exact kg ⟨a,xs,ls,rfl,ha,hl,hn,hd⟩ H' s1
theorem ok_Thing_init {f:Addr} {fd:FuncData} (F:Fun K "__init__" "Thing.__init__" s_Thing_init f fd) (T:Txt K mg ad):FnOk P w K mg base CX0 1 f fd ["self","spot_marks"] (sp_Thing_init ad):=by
  refine F.ok sc_Thing_init (fun vs H Q E h=>?_) (fun cdv A outer s H vs Q E hr h=>?_)
  · obtain ⟨p,dx,a,xs,c,rfl,_⟩:=h
    rfl
  · obtain ⟨p,dx,a,xs,c,rfl,hc,hp,ha,k⟩:=h
    refine ⟨_,(@pss_one _ _ _ (ps_fld (pv 0) (pe_callTy call_tupF rfl T.tuple PyProof.Rows.boot_tuple (pa_cons (pv 1) pa_nil)) rfl)),?_⟩
    and_intros
    refine ⟨_,SqL.of ha,fun t o ht hoc hod=>?_⟩
    rcases hc with rfl | rfl | rfl
    · refine ⟨ad.Row,dx,[],?_,T.cl_Row,T.na_Row_spot_marks,by decide,?_⟩
      · rw [upd_ne (ne_of_none hp ht)]; exact hp
      · exact k t o ht hoc hod
    · refine ⟨ad.Table,dx,[],?_,T.cl_Table,T.na_Table_spot_marks,by decide,?_⟩
      · rw [upd_ne (ne_of_none hp ht)]; exact hp
      · exact k t o ht hoc hod
    · refine ⟨ad.Forest,dx,[],?_,T.cl_Forest,T.na_Forest_spot_marks,by decide,?_⟩
      · rw [upd_ne (ne_of_none hp ht)]; exact hp
      · exact k t o ht hoc hod
theorem ok_Row_init {f:Addr} {fd:FuncData} (F:Fun K "__init__" "Row.__init__" s_Row_init f fd) (T:Txt K mg ad) {f_check_marks:Addr} {fd_check_marks:FuncData} (G_check_marks:FnOk P w K mg base (CX1 P w) 2 f_check_marks fd_check_marks ["marks","most"] (sp_check_marks ad)) {f_Thing_init:Addr} {fd_Thing_init:FuncData} (G_Thing_init:FnOk P w K mg base CX0 1 f_Thing_init fd_Thing_init ["self","spot_marks"] (sp_Thing_init ad)) (D_check_marks:Def K mg "check_marks" s_check_marks ["marks","most"] f_check_marks fd_check_marks) (B_Thing_init:Binds K fd_Thing_init ["self","spot_marks"] []) (CM_Thing_init:ClsM K ad.Thing "__init__" f_Thing_init):FnOk P w K mg base (CX1 P w) 3 f fd ["self","marks"] (sp_Row_init ad):=by
  refine F.okX sc_Row_init (fun vs H Q E h=>?_) (fun cdv A outer s H vs Q E hr h=>?_)
  · obtain ⟨p,dx,v,rfl,_⟩:=h
    rfl
  · obtain ⟨p,dx,v,rfl,hp,t,kg,kb⟩:=h
    obtain ⟨tk_MOST_IN_ROW,h_MOST_IN_ROW⟩:=T.g_MOST_IN_ROW
    refine ⟨_,(@pss_cons _ _ _ _ _ (ps_expr (pe_call G_check_marks (hr.mono (by decide)) rfl D_check_marks.mg D_check_marks.F.kp D_check_marks.b .nil pass1 (pa_cons (pv 1) (pa_cons (pe_glob (v:=.int 40) rfl h_MOST_IN_ROW ⟨_,rfl⟩) pa_nil))))
      (@pss_one _ _ _ (ps_expr (pe_clsm rfl T.c_Thing CM_Thing_init G_Thing_init (hr.mono (by decide)) B_Thing_init .nil pass0 (pa_cons (pv 0) (pa_cons (pv 1) pa_nil)))))),?_⟩
    and_intros
    refine ⟨v,40,rfl,t,fun hg H1 s1=>?_,fun hb H1 s1=>kb hb H1 fun b o _ e=>s1 b o e⟩
    obtain ⟨a,xs,rfl,ha,hl,hm⟩:=hg
    refine ⟨p,dx,a,xs,ad.Row,rfl,.inl rfl,s1 _ _ hp,s1 _ _ ha,fun t1 oo ht hoc hod=>?_⟩
    refine kg a xs rfl ha hl hm _ ⟨dx,t1,upd_same,?_,hm,hl⟩ fun b o hb e=>?_
    · exact ⟨oo,by rw [upd_ne (Ne.symm (ne_of_none (s1 _ _ hp) ht)),upd_same],hoc,hod⟩
    · rw [upd_ne hb,upd_ne (ne_of_none (s1 _ _ e) ht)]
      exact s1 _ _ e
theorem ok_Forest_init {f:Addr} {fd:FuncData} (F:Fun K "__init__" "Forest.__init__" s_Forest_init f fd) (T:Txt K mg ad) {f_check_nodes:Addr} {fd_check_nodes:FuncData} (G_check_nodes:FnOk P w K mg base (CX1 P w) 3 f_check_nodes fd_check_nodes ["nodes"] (sp_check_nodes ad)) {f_Thing_init:Addr} {fd_Thing_init:FuncData} (G_Thing_init:FnOk P w K mg base CX0 1 f_Thing_init fd_Thing_init ["self","spot_marks"] (sp_Thing_init ad)) (D_check_nodes:Def K mg "check_nodes" s_check_nodes ["nodes"] f_check_nodes fd_check_nodes) (B_Thing_init:Binds K fd_Thing_init ["self","spot_marks"] []) (CM_Thing_init:ClsM K ad.Thing "__init__" f_Thing_init):FnOk P w K mg base (CX1 P w) 4 f fd ["self","nodes"] (sp_Forest_init ad):=by
  refine F.okX sc_Forest_init (fun vs H Q E h=>?_) (fun cdv A outer s H vs Q E hr h=>?_)
  · obtain ⟨p,dx,v,rfl,_⟩:=h
    rfl
  · obtain ⟨p,dx,v,rfl,hp,t,kg,kb⟩:=h
    refine ⟨_,(@pss_cons _ _ _ _ _ (ps_expr (pe_call G_check_nodes (hr.mono (by decide)) rfl D_check_nodes.mg D_check_nodes.F.kp D_check_nodes.b .nil pass1 (pa_cons (pv 1) pa_nil)))
      (@pss_cons _ _ _ _ _ (ps_expr (pe_clsm rfl T.c_Thing CM_Thing_init G_Thing_init (hr.mono (by decide)) B_Thing_init .nil pass0 (pa_cons (pv 0) (pa_cons (pe_comp (own:=["node"]) (cap:=[]) (ix:=[]) rfl (show CompScope ["self","nodes"] (defScope s_Forest_init) _ ["node"] [] [] from ⟨rfl,by decide +kernel,by decide +kernel,by decide +kernel,by decide +kernel,by decide +kernel,by decide +kernel,rfl,by decide +kernel⟩) (pi_list (pv 1)) (fun C s₀ H₀ ex pn=>⟨pg_name (i:=0) (show (["node"]:List Str).Nodup by decide +kernel) rfl (Or.inl rfl),pifs_nil,(pe_ix (show IxR _ (rIxT K) from ix_tup) (pv 0) pe_int (fun _ _=>rfl))⟩)) pa_nil))))
      (@pss_one _ _ _ (ps_fld (pv 0) (pe_callTy call_tupL rfl T.tuple PyProof.Rows.boot_tuple (pa_cons (pv 1) pa_nil)) rfl)))),?_⟩
    and_intros
    refine ⟨v,rfl,t,fun hg H1 s1=>?_,fun hb H1 s1=>kb hb H1 fun b o _ e=>s1 b o e⟩
    obtain ⟨a,xs,ns,rfl,ha,hl,hn,hd⟩:=hg
    and_intros
    refine tcomp_list (a:=a) (xs:=xs) (H1:=H1) (fun R r=>⟨_,rfl,a,rfl,⟨_,SqL.of (s1 _ _ ha)⟩,r⟩) (fun i ys H'=>H' = H1 ∧ ys = (ns.take i).map fun n=>V.str n.1) ⟨rfl,rfl⟩ (fun i ys H' _ ⟨e,_⟩=>e ▸ SqL.of (s1 _ _ ha)) ?_ ?_
    · rintro i x ys H' R hx ⟨rfl,rfl⟩ hR
      obtain ⟨n,en,hx'⟩:=hn.get hx
      obtain ⟨tt,e,h2⟩:=hx'
      subst e
      simp only [tYes]
      and_intros
      refine ⟨_,SqT.of (s1 _ _ h2),_,rfl,?_,hR _ _ ⟨rfl,?_⟩⟩
      · rw [List.length_map,List.length_take]; exact small1000 (by have:=hn.length; omega)
      · rw [List.take_add_one,en,List.map_append]; rfl
    · rintro ys H' ⟨rfl,rfl⟩
      have hlen:=hn.length
      rw [hlen,List.take_length]
      refine ⟨by rw [List.length_map]; exact Nat.le_of_lt (small1000 (by omega)),fun l hl'=>?_⟩
      have s2:=s1.upd (o:=.lst (ns.map fun n=>V.str n.1)) hl'
      refine ⟨p,dx,l,_,ad.Forest,rfl,.inr (.inr rfl),s2 _ _ hp,upd_same,fun t1 oo ht1 hoc hod=>?_⟩
      have s3:=s2.upd (o:=.frz oo (.tup (ns.map fun n=>V.str n.1))) ht1
      have sb:∀ o,SameBut p H (upd (upd (upd H' l (.lst (ns.map fun n=>V.str n.1))) t1 (.frz oo (.tup (ns.map fun n=>V.str n.1)))) p o):=fun o b u hb e=>by rw [upd_ne hb]; exact s3 _ _ e
      have nap:a ≠ p:=ne_of ha hp (fun z=>nomatch z)
      refine ⟨xs,SqL.of (sb _ a _ nap ha),fun t2 ht2=>⟨ad.Forest,dx,[("spot_marks",.ref t1)],?_,T.cl_Forest,T.na_Forest_nodes,by show 1 < 1000; decide,?_⟩⟩
      · rw [upd_ne (ne_of_none upd_same ht2)]; exact upd_same
      · rw [putF2 (by decide +kernel)]
        have n2p:t2 ≠ p:=Ne.symm (ne_of_none upd_same ht2)
        have n1p:t1 ≠ p:=Ne.symm (ne_of_none (s2 _ _ hp) ht1)
        have t1a:∀ o,(upd (upd (upd H' l (.lst (ns.map fun n=>V.str n.1))) t1 (.frz oo (.tup (ns.map fun n=>V.str n.1)))) p o) t1 = some (.frz oo (.tup (ns.map fun n=>V.str n.1))):=fun o=>by rw [upd_ne n1p]; exact upd_same
        have sF:∀ o,SameBut p H (upd (upd (upd (upd (upd H' l (.lst (ns.map fun n=>V.str n.1))) t1 (.frz oo (.tup (ns.map fun n=>V.str n.1)))) p (.ins ad.Forest dx [("spot_marks",.ref t1)])) t2 (.tup xs)) p o):=fun o b u hb e=>by
          rw [upd_ne hb,upd_ne (ne_of_none (sb _ b u hb e) ht2)]
          exact sb _ b u hb e
        refine kg a xs ns rfl ha hl hn hd _ ⟨dx,t1,t2,xs,upd_same,?_,?_,?_⟩ (sF _)
        · exact ⟨oo,by rw [upd_ne n1p,upd_ne (ne_of_none (t1a _) ht2)]; exact t1a _,hoc,hod⟩
        · rw [upd_ne n2p]; exact upd_same
        · exact hn.tups fun b ys e=>sF _ b _ (ne_of e hp (fun z=>nomatch z)) e
theorem ok_Table_init {f:Addr} {fd:FuncData} (F:Fun K "__init__" "Table.__init__" s_Table_init f fd) (T:Txt K mg ad) {f_check_lines:Addr} {fd_check_lines:FuncData} (G_check_lines:FnOk P w K mg base (CX1 P w) 3 f_check_lines fd_check_lines ["lines"] (sp_check_lines ad)) {f_Thing_init:Addr} {fd_Thing_init:FuncData} (G_Thing_init:FnOk P w K mg base CX0 1 f_Thing_init fd_Thing_init ["self","spot_marks"] (sp_Thing_init ad)) (D_check_lines:Def K mg "check_lines" s_check_lines ["lines"] f_check_lines fd_check_lines) (B_Thing_init:Binds K fd_Thing_init ["self","spot_marks"] []) (CM_Thing_init:ClsM K ad.Thing "__init__" f_Thing_init):FnOk P w K mg base (CX1 P w) 4 f fd ["self","lines"] (sp_Table_init ad):=by
  refine F.okX sc_Table_init (fun vs H Q E h=>?_) (fun cdv A outer s H vs Q E hr h=>?_)
  · obtain ⟨p,dx,v,rfl,_⟩:=h
    rfl
  · obtain ⟨p,dx,v,rfl,hp,t,kg,kb⟩:=h
    refine ⟨_,(@pss_cons _ _ _ _ _ (ps_expr (pe_call G_check_lines (hr.mono (by decide)) rfl D_check_lines.mg D_check_lines.F.kp D_check_lines.b .nil pass1 (pa_cons (pv 1) pa_nil)))
      (@pss_cons _ _ _ _ _ (ps_set (i:=2) sc_Table_init.nd rfl (Or.inl rfl) (pe_lst pa_nil))
      (@pss_cons _ _ _ _ _ (ps_for PassesOwn.leaving rfl (pi_list (pv 1)) (pg_name (i:=3) sc_Table_init.nd rfl (Or.inl rfl))
      (@pss_one _ _ _ (ps_expr (pe_bm PySem.F.plainAttrs_list PySem.F.slot_list_extend PySem.F.type_list_extend mt_extend (pv 2) (pa_cons (pv 3) pa_nil)))))
      (@pss_cons _ _ _ _ _ (ps_expr (pe_clsm rfl T.c_Thing CM_Thing_init G_Thing_init (hr.mono (by decide)) B_Thing_init .nil pass0 (pa_cons (pv 0) (pa_cons (pv 2) pa_nil))))
      (@pss_cons _ _ _ _ _ (ps_fld (pv 0) (pe_callTy call_tupL rfl T.tuple PyProof.Rows.boot_tuple (pa_cons (pe_comp (own:=["line"]) (cap:=[]) (ix:=[]) rfl (show CompScope ["self","lines","spot_marks","line"] (defScope s_Table_init) _ ["line"] [] [] from ⟨rfl,by decide +kernel,by decide +kernel,by decide +kernel,by decide +kernel,by decide +kernel,by decide +kernel,rfl,by decide +kernel⟩) (pi_list (pv 1)) (fun C s₀ H₀ ex pn=>⟨pg_name (i:=0) (show (["line"]:List Str).Nodup by decide +kernel) rfl (Or.inl rfl),pifs_nil,(pe_callTy (show CallR _ (.type "tuple") (rTupL K) from call_tupL) rfl T.tuple PyProof.Rows.boot_tuple (pa_cons (pv 0) pa_nil))⟩)) pa_nil)) rfl)
      (@pss_one _ _ _ (ps_fld (pv 0) (pe_ifExp (pt_truth (pv 1) (fun _=>rfl)) (pe_callB call_lenL rfl T.len PySem.boot_len (pa_cons (pe_ix ix_list (pv 1) pe_int (fun _ _=>rfl)) pa_nil)) pe_int) rfl))))))),?_⟩
    and_intros
    refine ⟨v,rfl,t,fun hg H1 s1=>?_,fun hb H1 s1=>kb hb H1 fun b o _ e=>s1 b o e⟩
    obtain ⟨a,xs,ls,rfl,ha,hl,hn,hd⟩:=hg
    have hlen:=hn.length
    have hmk:=tab_marks hd
    have hl12:∀ l ∈ ls,l.length ≤ 12:=fun l h=>by have:=(wideT_all hd l h).1; have:=wideT_le hd; omega
    have hfl:∀ i,(ls.take i).flatten.length ≤ 144:=fun i=>by
      have h1:=flat_len (ls:=ls.take i) fun l h=>hl12 l (List.mem_of_mem_take h)
      have h2:(ls.take i).length ≤ 12:=by rw [List.length_take]; omega
      omega
    refine ⟨by decide,fun sm hsm=>?_⟩
    have ss:=Same.put (o:=.lst []) hsm
    refine ⟨_,rfl,a,rfl,⟨_,SqL.of (ss _ _ (s1 _ _ ha))⟩,for_list (xs:=xs) (fun i σ H'=>Same H1 H' ∧ H' sm = some (.lst (ls.take i).flatten) ∧ ∃ o,StIs σ [some (.ref p),some (.ref a),some (.ref sm),o]) ⟨ss,upd_same,none,StIs.rfl⟩ ?_ ?_ ?_⟩
    · rintro i σ H' _ ⟨s2,_⟩
      exact SqL.of (s2 _ _ (s1 _ _ ha))
    · rintro i x σ H' hx ⟨s2,hsm2,o,rfl⟩
      obtain ⟨l,el,c,ec,hc⟩:=hn.get hx
      subst ec
      and_intros
      have hl1:=hl12 l (List.mem_of_getElem? el)
      have hl2:=hfl i
      refine ⟨.inl ⟨rfl,_,SqL.of hsm2⟩,_,hsm2,l,s2 _ _ (s1 _ _ hc),Nat.le_of_lt (small1000 (by omega)),fun b o e=>?_,?_,_,StIs.rfl⟩
      · rw [upd_ne (ne_of_none e hsm)]; exact s2 b o e
      · rw [upd_same,List.take_add_one,el,List.flatten_append]; simp
    · rintro σ H' ⟨s2,hsm2,o,rfl⟩
      rw [hlen,List.take_length] at hsm2
      and_intros
      have s12:=s1.trans s2
      refine ⟨p,dx,sm,_,ad.Table,rfl,.inr (.inl rfl),s12 _ _ hp,hsm2,fun t1 oo ht1 hoc hod=>?_⟩
      have n1p:t1 ≠ p:=Ne.symm (ne_of_none (s12 _ _ hp) ht1)
      have hp2:(upd (upd H' t1 (.frz oo (.tup ls.flatten))) p (.ins ad.Table dx [("spot_marks",.ref t1)])) p = some (.ins ad.Table dx [("spot_marks",.ref t1)]):=upd_same
      have h1t:(upd (upd H' t1 (.frz oo (.tup ls.flatten))) p (.ins ad.Table dx [("spot_marks",.ref t1)])) t1 = some (.frz oo (.tup ls.flatten)):=by rw [upd_ne n1p]; exact upd_same
      have sb2:SameBut p H (upd (upd H' t1 (.frz oo (.tup ls.flatten))) p (.ins ad.Table dx [("spot_marks",.ref t1)])):=fun b o hb e=>by rw [upd_ne hb]; exact (s12.upd ht1) b o e
      generalize (upd (upd H' t1 (.frz oo (.tup ls.flatten))) p (.ins ad.Table dx [("spot_marks",.ref t1)])) = H2 at hp2 h1t sb2 ⊢
      have ha2:=sb2 a _ (ne_of ha hp (fun z=>nomatch z)) ha
      have hn2:RowsAt .lst H2 xs ls:=RowsAt.keep (f:=.lst) (fun b ys (e:H b = some (.lst ys))=>sb2 b _ (ne_of e hp (fun z=>nomatch z)) e) hn
      refine tcomp_list (a:=a) (xs:=xs) (H1:=H2) (fun R r=>⟨_,rfl,a,rfl,⟨_,SqL.of ha2⟩,r⟩) (fun i ys H'=>Same H2 H' ∧ RowsAt .tup H' ys (ls.take i)) ⟨Same.refl _,trivial⟩ (fun i ys H' _ ⟨s,_⟩=>SqL.of (s _ _ ha2)) ?_ ?_
      · rintro i x ys H' R hx ⟨s3,hr⟩ hR
        obtain ⟨l,el,c,ec,hc⟩:=hn2.get hx
        subst ec
        simp only [tYes]
        and_intros
        refine ⟨_,SqL.of (s3 _ _ hc),fun q hq=>⟨?_,hR _ _ ⟨s3.upd hq,?_⟩⟩⟩
        · rw [hr.length,List.length_take]; exact small1000 (by omega)
        · rw [List.take_add_one,el]
          exact (hr.same (Same.put hq)).append ⟨⟨q,rfl,upd_same⟩,trivial⟩
      · rintro ys H' ⟨s3,hr⟩
        rw [hlen,List.take_length] at hr
        refine ⟨?_,fun D hD=>?_⟩
        · rw [hr.length]; exact Nat.le_of_lt (small1000 (by omega))
        and_intros
        refine ⟨_,SqL.of upd_same,fun t2 ht2=>?_⟩
        have s4:=(s3.upd (o:=.lst ys) hD).upd (o:=.tup ys) ht2
        have h2t:(upd (upd H' D (.lst ys)) t2 (.tup ys)) t2 = some (.tup ys):=upd_same
        have hr4:=hr.same ((Same.put (o:=.lst ys) hD).upd (o:=.tup ys) ht2)
        generalize (upd (upd H' D (.lst ys)) t2 (.tup ys)) = H4 at s4 h2t hr4 ⊢
        have hp4:=s4 _ _ hp2
        refine ⟨ad.Table,dx,_,hp4,T.cl_Table,T.na_Table_lines,by show 1 < 1000; decide,?_⟩
        rw [putF2 (by decide +kernel)]
        have t1p:=s4 _ _ h1t
        have n2p:t2 ≠ p:=ne_of h2t hp4 (fun z=>nomatch z)
        have sx:∀ o,SameBut p H4 (upd H4 p o):=fun o b u hb e=>by rw [upd_ne hb]; exact e
        have ha5:=fun o=>sx o a _ (ne_of ha hp (fun z=>nomatch z)) (s4 _ _ ha2)
        have hn5:∀ o,RowsAt .lst (upd H4 p o) xs ls:=fun o=>RowsAt.keep (f:=.lst) (fun b ys (e:H4 b = some (.lst ys))=>sx o b _ (ne_of e hp4 (fun z=>nomatch z)) e) (hn2.same s4)
        have fin:∀ cw:Int,cw = (wideT ls:Int) → Q .non (upd (upd H4 p (.ins ad.Table dx [("spot_marks",.ref t1),("lines",.ref t2)])) p (.ins ad.Table dx (putF "columns" (.int cw) [("spot_marks",.ref t1),("lines",.ref t2)]))):=fun cw e=>by
          rw [putF3 (by decide +kernel) (by decide +kernel),upd_upd,e]
          refine kg a xs ls rfl ha hl hn hd _ ⟨dx,t1,t2,ys,upd_same,?_,?_,?_,wideT_le hd,by omega,wideT_all hd⟩ fun b o hb e=>?_
          · exact ⟨oo,by rw [upd_ne n1p]; exact t1p,hoc,hod⟩
          · rw [upd_ne n2p]; exact h2t
          · exact RowsAt.keep (f:=.tup) (fun b zs (e:H4 b = some (.tup zs))=>sx _ b _ (ne_of e hp4 (fun z=>nomatch z)) e) hr4
          · rw [upd_ne hb]; exact s4 _ _ (sb2 b o hb e)
        refine ⟨!xs.isEmpty,.inl ⟨xs,SqL.of (ha5 _),rfl⟩,ite2 (fun hne=>?_) fun hne=>?_⟩
        · cases xs with
          | nil=>cases hne
          | cons x0 xr =>
            cases ls with
            | nil=>exact hn.elim
            | cons l0 lr =>
              obtain ⟨c0,ec0,hc0⟩:=(hn5 (.ins ad.Table dx [("spot_marks",.ref t1),("lines",.ref t2)])).1
              refine ⟨_,SqL.of (ha5 _),x0,atI_nat (j:=0) rfl,c0,ec0,_,SqL.of hc0,_,_,_,upd_same,T.cl_Table,T.na_Table_columns,by show 2 < 1000; decide,fin _ rfl⟩
        · refine ⟨_,_,_,upd_same,T.cl_Table,T.na_Table_columns,by show 2 < 1000; decide,fin _ ?_⟩
          cases xs with
          | nil =>
            cases ls with
            | nil=>rfl
            | cons l0 lr=>exact hn.elim
          | cons x0 xr=>exact absurd rfl hne
theorem ok__law_cell_at {f:Addr} {fd:FuncData} (D:Def K mg "_law_cell_at" s__law_cell_at ["_law_script","_law_k"] f fd) (T:Txt K mg ad):FnOk P w K mg base CX0 1 f fd ["_law_script","_law_k"] (sp__law_cell_at K):=by
  refine D.F.ok sc__law_cell_at (fun vs H Q E h=>?_) (fun cdv A outer s H vs Q E hr h=>?_)
  · obtain ⟨a,ns,k,rfl,_⟩:=h
    rfl
  · obtain ⟨a,ns,k,rfl,hS,q⟩:=h
    refine ⟨_,(@pss_cons _ _ _ _ _ (ps_if (pt_cmpR op_lt (pv 1) (pe_callB call_lenL rfl T.len PySem.boot_len (pa_cons (pv 0) pa_nil)) (nomark _))
      (@pss_one _ _ _ (ps_ret (pe_ix ix_list (pv 0) (pv 1) (fun _ _=>rfl))))
      pss_nil)
      (@pss_one _ _ _ (ps_ret (pe_op op_add (pe_op op_mul pe_int (pv 1)) pe_int)))),?_⟩
    and_intros
    refine ⟨_,hS,ite2 (fun h1=>?_) (fun h1=>⟨.inl ⟨by decide,by decide⟩,q _⟩)⟩
    have h1:k < ns.length:=by rw [List.length_map] at h1; omega
    exact ⟨_,hS,_,atI_nat (by rw [List.getElem?_map,List.getElem?_eq_getElem h1]; rfl),q _⟩
theorem ok__law_names {f:Addr} {fd:FuncData} (D:Def K mg "_law_names" s__law_names ["_law_cell","_law_many"] f fd) (T:Txt K mg ad):FnOk P w K mg base CX0 1 f fd ["_law_cell","_law_many"] sp__law_names:=by
  refine D.F.ok sc__law_names (fun vs H Q E h=>?_) (fun cdv A outer s H vs Q E hr h=>?_)
  · obtain ⟨c,m,rfl,_⟩:=h
    rfl
  · obtain ⟨c,m,rfl,hm,k⟩:=h
    have hu:=hr.units
    have hsz:∀ {z:Str},z.length ≤ 1000 → z.length ≤ sizeLine:=fun h=>Nat.le_of_lt (small1000 h)
    have go:=fun j:Int=>at_str (z:=LET) (i:=j) (m:=26) (by decide) (by decide +kernel)
    have allM:∀ {ws:List Str},(∀ z ∈ ws,markS z = true) → (ws.map V.str).all markV = true:=fun {ws} h=>List.all_eq_true.mpr fun x hx=>by
      obtain ⟨z,hz,rfl⟩:=List.mem_map.mp hx
      exact h z hz
    have mk:∀ {z:Str},1 ≤ z.length → z.length ≤ 8 → (∀ y ∈ z.cps.toList,y ∈ LET.cps.toList) → markS z = true:=fun h1 h2 h3=>mark_of h1 h2 fun y hy=>letC_iff.mpr (h3 y hy)
    refine ⟨_,(@pss_cons _ _ _ _ _ (ps_set (i:=2) sc__law_names.nd rfl (Or.inl rfl) pe_str)
      (@pss_cons _ _ _ _ _ (ps_set (i:=3) sc__law_names.nd rfl (Or.inl rfl) (pe_op op_add pe_int (pe_op op_mod (pv 0) pe_int)))
      (@pss_cons _ _ _ _ _ (ps_set (i:=4) sc__law_names.nd rfl (Or.inl rfl) (pe_op op_mod (pe_op op_fdiv (pv 0) pe_int) (pv 3)))
      (@pss_cons _ _ _ _ _ (ps_set (i:=5) sc__law_names.nd rfl (Or.inl rfl) (pe_lst pa_nil))
      (@pss_cons _ _ _ _ _ (ps_set (i:=6) sc__law_names.nd rfl (Or.inl rfl) (pe_op op_fdiv (pv 0) pe_int))
      (@pss_cons _ _ _ _ _ (ps_for PassesOwn.never rfl (pi_range1 rfl T.range (pa_cons (pe_op op_mul (pe_op op_mul (pv 1) (pe_op op_mod (pv 0) pe_int)) (pe_callTy call_int1 rfl T.int PyProof.Rows.boot_int (pa_cons (pe_cmpR op_gt (pv 0) (pe_op op_pow pe_int pe_int) (nomark _)) pa_nil))) pa_nil)) (pg_name (i:=7) sc__law_names.nd rfl (Or.inl rfl))
      (@pss_cons _ _ _ _ _ (ps_set (i:=8) sc__law_names.nd rfl (Or.inl rfl) (pe_ix ix_str (pv 2) (pe_op op_mod (pe_op op_fdiv (pv 6) pe_int) pe_int) (fun _ _=>rfl)))
      (@pss_cons _ _ _ _ _ (ps_set (i:=9) sc__law_names.nd rfl (Or.inl rfl) (pe_op op_mod (pv 6) pe_int))
      (@pss_cons _ _ _ _ _ (ps_set (i:=6) sc__law_names.nd rfl (Or.inl rfl) (pe_op op_fdiv (pv 6) pe_int))
      (@pss_cons _ _ _ _ _ (ps_for PassesOwn.never rfl (pi_range1 rfl T.range (pa_cons (pv 9) pa_nil)) (pg_name (i:=10) sc__law_names.nd rfl (Or.inl rfl))
      (@pss_cons _ _ _ _ _ (ps_set (i:=8) sc__law_names.nd rfl (Or.inl rfl) (pe_op op_add_str (pv 8) (pe_ix ix_str (pv 2) (pe_op op_mod (pv 6) pe_int) (fun _ _=>rfl))))
      (@pss_one _ _ _ (ps_set (i:=6) sc__law_names.nd rfl (Or.inl rfl) (pe_op op_fdiv (pv 6) pe_int)))))
      (@pss_one _ _ _ (ps_expr (pe_bm PySem.F.plainAttrs_list PySem.F.slot_list_append PySem.F.type_list_append mt_append (pv 5) (pa_cons (pv 8) pa_nil)))))))))
      (@pss_cons _ _ _ _ _ (ps_if (pt_cmpR (op_neD hu) (pv 5) (pe_lst pa_nil) (nomark _))
      (@pss_one _ _ _ (ps_ret (pv 5)))
      pss_nil)
      (@pss_cons _ _ _ _ _ (ps_for PassesOwn.never rfl (pi_range1 rfl T.range (pa_cons (pv 1) pa_nil)) (pg_name (i:=7) sc__law_names.nd rfl (Or.inl rfl))
      (@pss_cons _ _ _ _ _ (ps_set (i:=8) sc__law_names.nd rfl (Or.inl rfl) pe_str)
      (@pss_cons _ _ _ _ _ (ps_for PassesOwn.never rfl (pi_range1 rfl T.range (pa_cons (pv 3) pa_nil)) (pg_name (i:=10) sc__law_names.nd rfl (Or.inl rfl))
      (@pss_cons _ _ _ _ _ (ps_set (i:=11) sc__law_names.nd rfl (Or.inl rfl) (pe_op op_add (pe_op op_fdiv (pv 0) (pe_op op_add pe_int (pe_op op_mul pe_int (pv 10)))) (pe_op op_mul (pv 10) (pv 10))))
      (@pss_cons _ _ _ _ _ (ps_if (pt_cmpR op_eq (pv 10) (pv 4) (nomark _))
      (@pss_one _ _ _ (ps_set (i:=11) sc__law_names.nd rfl (Or.inl rfl) (pe_op op_add (pv 11) (pv 7))))
      pss_nil)
      (@pss_one _ _ _ (ps_set (i:=8) sc__law_names.nd rfl (Or.inl rfl) (pe_op op_add_str (pv 8) (pe_ix ix_str (pv 2) (pe_op op_mod (pv 11) pe_int) (fun _ _=>rfl))))))))
      (@pss_one _ _ _ (ps_expr (pe_bm PySem.F.plainAttrs_list PySem.F.slot_list_append PySem.F.type_list_append mt_append (pv 5) (pa_cons (pv 8) pa_nil)))))))
      (@pss_one _ _ _ (ps_ret (pv 5))))))))))),?_⟩
    refine tseq_open fun B hB=>?_
    and_intros
    subst hB
    refine tseq_open fun B hB=>?_
    and_intros
    have s0':=Int.emod_nonneg c (show (8:Int) ≠ 0 by decide)
    have s8':=Int.emod_lt_of_pos c (show (0:Int) < 8 by decide)
    obtain ⟨sz,esz⟩:=Int.eq_ofNat_of_zero_le (show 0 ≤ 1 + c % 8 by omega)
    rw [esz]
    have z1:1 ≤ sz:=by omega
    have z8:sz ≤ 8:=by omega
    subst hB
    refine tseq_open fun B hB=>?_
    and_intros
    refine ⟨by omega,?_⟩
    generalize c / 8 % (sz:Int) = ea
    subst hB
    refine tseq_open fun B hB=>?_
    and_intros
    refine ⟨by decide,fun l hl=>?_⟩
    have s0:=Same.put (o:=.lst []) hl
    have f0:(upd H l (.lst [])) l = some (.lst []):=upd_same
    generalize (upd H l (.lst [])) = H0 at s0 f0 ⊢
    subst hB
    refine tseq_open fun B hB=>?_
    and_intros
    subst hB
    refine tseq_open fun B hB=>?_
    have c0:=Int.emod_nonneg c (show (2:Int) ≠ 0 by decide)
    have c2:=Int.emod_lt_of_pos c (show (0:Int) < 2 by decide)
    obtain ⟨cp,ecp⟩:=Int.eq_ofNat_of_zero_le c0
    obtain ⟨n1,en1,hn1⟩:∃ n1:Nat,(m:Int) * (c % 2) * (if (10:Int) ^ Int.toNat 9 < c then 1 else 0) = (n1:Int) ∧ (n1 = 0 ∨ n1 = m):=by
      rcases (show c % 2 = 0 ∨ c % 2 = 1 by omega) with h | h
      · exact ⟨0,by rw [h]; simp,.inl rfl⟩
      · by_cases h2:(10:Int) ^ Int.toNat 9 < c
        · exact ⟨m,by rw [h,if_pos h2]; simp,.inr rfl⟩
        · exact ⟨0,by rw [h,if_neg h2]; simp,.inl rfl⟩
    refine (show tFor _ _ _ _ _ _ from ?_)
    refine (show iRng1 _ _ _ _ from ?_)
    refine split_it (fun J H1=>J = Itr 0 n1 ∧ H1 = H0) (fun G hG=>?_) ?_
    · and_intros
      refine ⟨.inl ⟨by omega,by omega⟩,⟨by decide,by decide,by decide⟩,.inr ⟨.inr ⟨by split <;> decide,by split <;> decide⟩,?_⟩⟩
      rw [en1]
      exact ⟨by omega,by omega,hG _ _ ⟨by rw [Int.toNat_natCast],rfl⟩⟩
    rintro J H1 ⟨rfl,rfl⟩
    refine for_range (n:=n1) (fun i σ H'=>Same H H' ∧ ∃ ws:List Str,H' l = some (.lst (ws.map V.str)) ∧ ws.length = i ∧ (∀ z ∈ ws,markS z = true) ∧ ∃ (rest:Int) (o7 o8 o9 o10:Option V),StIs σ [some (.int c),some (.int m),some (.str LET),some (.int sz),some (.int ea),some (.ref l),some (.int rest),o7,o8,o9,o10,none]) ⟨s0,[],f0,rfl,(fun _ z=>nomatch z),_,none,none,none,none,StIs.rfl⟩ ?_ ?_
    · rintro i σ H' hi ⟨s1,ws,hl',hw,hws,rest,o7,o8,o9,o10,rfl⟩
      refine tseq_open fun B hB=>?_
      and_intros
      obtain ⟨x,hx,ex⟩:=go (rest / 8)
      refine ⟨hsz (by decide +kernel),x,ex,?_⟩
      subst hB
      refine tseq_open fun B hB=>?_
      and_intros
      obtain ⟨mo,emo⟩:=Int.eq_ofNat_of_zero_le (Int.emod_nonneg rest (show (8:Int) ≠ 0 by decide))
      have mo8:=Int.emod_lt_of_pos rest (show (0:Int) < 8 by decide)
      rw [emo]
      subst hB
      refine tseq_open fun B hB=>?_
      and_intros
      generalize rest / 208 = rest1
      subst hB
      refine tseq_open fun B hB=>?_
      refine ⟨_,rfl,mo,rfl,by omega,by omega,?_⟩
      rw [Int.toNat_natCast]
      refine for_range (n:=mo) (fun j σ H2=>H2 = H' ∧ ∃ w:Str,w.length = j + 1 ∧ (∀ y ∈ w.cps.toList,y ∈ LET.cps.toList) ∧ ∃ (rest:Int) (o10:Option V),StIs σ [some (.int c),some (.int m),some (.str LET),some (.int sz),some (.int ea),some (.ref l),some (.int rest),some (.int (0 + (i:Int))),some (.str w),some (.int mo),o10,none]) ⟨rfl,⟨#[x]⟩,rfl,?_,_,_,StIs.rfl⟩ ?_ ?_
      · intro y hy
        rw [show y = x by simpa using hy]
        exact hx
      · rintro j σ H2 hj ⟨rfl,w,hwl,hwc,rest2,o10',rfl⟩
        and_intros
        obtain ⟨x2,hx2,ex2⟩:=go rest2
        refine ⟨hsz (by decide +kernel),x2,ex2,?_,w ++ ⟨#[x2]⟩,?_,fun y hy=>?_,_,_,StIs.rfl⟩
        · rw [one_len]; exact Nat.le_of_lt (small1000 (by omega))
        · rw [Str.length_append,one_len,hwl]
        · rw [app_list,List.mem_append] at hy
          rcases hy with h | h
          · exact hwc y h
          · rw [show y = x2 by simpa using h]; exact hx2
      rintro σ H2 ⟨rfl,w,hwl,hwc,rest2,o10',rfl⟩
      dsimp only
      subst hB
      and_intros
      refine ⟨.inl ⟨rfl,_,SqL.of hl'⟩,_,hl',by rw [List.length_map]; exact small1000 (by omega),same_ne s1 hl,ws ++ [w],by rw [upd_same,List.map_append]; rfl,by rw [List.length_append,hw]; rfl,fun y hy'=>?_,_,_,_,_,_,StIs.rfl⟩
      rcases List.mem_append.mp hy' with h | h
      · exact hws y h
      · rw [List.mem_singleton.mp h]; exact mk (by omega) (by omega) hwc
    rintro σ H' ⟨s1,ws,hl',hw,hws,rest,o7,o8,o9,o10,rfl⟩
    dsimp only
    subst hB
    refine tseq_open fun B hB=>?_
    and_intros
    refine ⟨by decide,fun e he=>?_⟩
    have se:=Same.put (o:=.lst []) he
    have fe:(upd H' e (.lst [])) e = some (.lst []):=upd_same
    generalize (upd H' e (.lst [])) = H5 at se fe ⊢
    have hl5:=se _ _ hl'
    have am:=allM hws
    have cm:=canLay_marks am
    have dm:=depth_marks (ws.map V.str)
    refine ⟨_,_,.lst (SqL.of hl5) (datVs_marks am),.lst (SqL.of fe) .nil,?_,rfl,?_⟩
    · unfold SeqAt.shaped
      rw [Bool.and_eq_true]
      refine ⟨by simp only [PyData.canLay0]; exact cm,decide_eq_true ?_⟩
      simp only [PyData.depth]
      omega
    cases ws with
    | cons z r =>
      have nz:n1 = m:=by
        rw [List.length_cons] at hw
        rcases hn1 with h | h
        · omega
        · exact h
      refine ⟨true,rfl,?_⟩
      rw [if_pos rfl]
      exact k (z :: r) l H5 (by rw [hw]; exact nz) hws (s1.trans se) hl5
    | nil =>
      refine ⟨false,rfl,?_⟩
      rw [if_neg (by decide)]
      have s5:=s1.trans se
      subst hB
      refine tseq_open fun B hB=>?_
      refine ⟨_,rfl,m,rfl,by omega,by omega,?_⟩
      rw [Int.toNat_natCast]
      refine for_range (n:=m) (fun i σ H'=>Same H H' ∧ ∃ ws:List Str,H' l = some (.lst (ws.map V.str)) ∧ ws.length = i ∧ (∀ z ∈ ws,markS z = true) ∧ ∃ o7 o8 o10 o11:Option V,StIs σ [some (.int c),some (.int m),some (.str LET),some (.int sz),some (.int ea),some (.ref l),some (.int rest),o7,o8,o9,o10,o11]) ⟨s5,[],hl5,rfl,(fun _ z=>nomatch z),_,_,_,_,StIs.rfl⟩ ?_ ?_
      · rintro i σ H' hi ⟨s1,ws,hl',hw,hws,o7,o8,o10,o11,rfl⟩
        refine tseq_open fun B2 hB2=>?_
        and_intros
        subst hB2
        refine tseq_open fun B2 hB2=>?_
        refine ⟨_,rfl,sz,rfl,by omega,by omega,?_⟩
        rw [Int.toNat_natCast]
        refine for_range (n:=sz) (fun j σ H2=>H2 = H' ∧ ∃ w:Str,w.length = j ∧ (∀ y ∈ w.cps.toList,y ∈ LET.cps.toList) ∧ ∃ o10 o11:Option V,StIs σ [some (.int c),some (.int m),some (.str LET),some (.int sz),some (.int ea),some (.ref l),some (.int rest),some (.int (0 + (i:Int))),some (.str w),o9,o10,o11]) ⟨rfl,Str.empty,rfl,(fun _ z=>nomatch z),_,_,StIs.rfl⟩ ?_ ?_
        · rintro j σ H2 hj ⟨rfl,w,hwl,hwc,o10',o11',rfl⟩
          refine tseq_open fun B3 hB3=>?_
          and_intros
          refine ⟨.inl ⟨by decide,by decide⟩,by omega,by omega,.inl ⟨by omega,by omega⟩,?_⟩
          generalize c / (64 + 3 * (0 + (j:Int))) + (0 + (j:Int)) * (0 + (j:Int)) = pl
          subst hB3
          refine tseq_open fun B3 hB3=>?_
          and_intros
          refine ite2 (fun _=>?_) fun _=>?_
          · subst hB3
            and_intros
            obtain ⟨x2,hx2,ex2⟩:=go (pl + (0 + (i:Int)))
            refine ⟨hsz (by decide +kernel),x2,ex2,?_,w ++ ⟨#[x2]⟩,?_,fun y hy=>?_,_,_,StIs.rfl⟩
            · rw [one_len]; exact Nat.le_of_lt (small1000 (by omega))
            · rw [Str.length_append,one_len,hwl]
            · rw [app_list,List.mem_append] at hy
              rcases hy with h | h
              · exact hwc y h
              · rw [show y = x2 by simpa using h]; exact hx2
          · subst hB3
            and_intros
            obtain ⟨x2,hx2,ex2⟩:=go pl
            refine ⟨hsz (by decide +kernel),x2,ex2,?_,w ++ ⟨#[x2]⟩,?_,fun y hy=>?_,_,_,StIs.rfl⟩
            · rw [one_len]; exact Nat.le_of_lt (small1000 (by omega))
            · rw [Str.length_append,one_len,hwl]
            · rw [app_list,List.mem_append] at hy
              rcases hy with h | h
              · exact hwc y h
              · rw [show y = x2 by simpa using h]; exact hx2
        rintro σ H2 ⟨rfl,w,hwl,hwc,o10',o11',rfl⟩
        dsimp only
        subst hB2
        and_intros
        refine ⟨.inl ⟨rfl,_,SqL.of hl'⟩,_,hl',by rw [List.length_map]; exact small1000 (by omega),same_ne s1 hl,ws ++ [w],by rw [upd_same,List.map_append]; rfl,by rw [List.length_append,hw]; rfl,fun y hy'=>?_,_,_,_,_,StIs.rfl⟩
        rcases List.mem_append.mp hy' with h | h
        · exact hws y h
        · rw [List.mem_singleton.mp h]; exact mk (by omega) (by omega) hwc
      rintro σ H' ⟨s1,ws,hl',hw,hws,o7,o8,o10,o11,rfl⟩
      dsimp only
      subst hB
      and_intros
      exact k ws l H' hw hws s1 hl'
theorem ok__law_data {f:Addr} {fd:FuncData} (D:Def K mg "_law_data" s__law_data ["_law_script","_law_begin","_law_kind","_law_many","_law_names_here"] f fd) (T:Txt K mg ad) {f__law_cell_at:Addr} {fd__law_cell_at:FuncData} (G__law_cell_at:FnOk P w K mg base CX0 1 f__law_cell_at fd__law_cell_at ["_law_script","_law_k"] (sp__law_cell_at K)) (D__law_cell_at:Def K mg "_law_cell_at" s__law_cell_at ["_law_script","_law_k"] f__law_cell_at fd__law_cell_at):FnOk P w K mg base CX0 2 f fd ["_law_script","_law_begin","_law_kind","_law_many","_law_names_here"] (sp__law_data K):=by
  refine D.F.ok sc__law_data (fun vs H Q E h=>?_) (fun cdv A outer s H vs Q E hr h=>?_)
  · obtain ⟨a,nl,ns,b,m,kd,zs,rfl,_⟩:=h
    rfl
  · obtain ⟨a,nl,ns,b,m,kd,zs,rfl,hS,hm,k0,k3,hnl,z1,z20,hz,k⟩:=h
    refine ⟨_,(@pss_cons _ _ _ _ _ (ps_setC (i:=5) rfl sc__law_data.nd rfl (Or.inl rfl) (show CompScope ["_law_script","_law_begin","_law_kind","_law_many","_law_names_here","_law_cells","_law_nodes","_law_deep","_law_cell","_law_wide","_law_lines","_law_k"] (defScope s__law_data) _ ["_law_k"] ["_law_script","_law_begin"] [0,1] from ⟨rfl,by decide +kernel,by decide +kernel,by decide +kernel,by decide +kernel,by decide +kernel,by decide +kernel,rfl,by decide +kernel⟩) (pi_range1 rfl T.range (pa_cons (pv 3) pa_nil)) (fun C s₀ H₀ ex pn=>⟨pg_name (i:=0) (show (["_law_k","_law_script","_law_begin"]:List Str).Nodup by decide +kernel) rfl (Or.inl rfl),pifs_nil,(pe_call G__law_cell_at (hr.mono (by decide)) rfl D__law_cell_at.mg D__law_cell_at.F.kp D__law_cell_at.b .nil pass0 (pa_cons (pv 1) (pa_cons (pe_op op_add (pv 2) (pv 0)) pa_nil)))⟩))
      (@pss_cons _ _ _ _ _ (ps_if (pt_cmpR op_eq (pv 2) pe_int (nomark _))
      (@pss_one _ _ _ (ps_ret (pe_comp (own:=["_law_cell"]) (cap:=["_law_names_here"]) (ix:=[4]) rfl (show CompScope ["_law_script","_law_begin","_law_kind","_law_many","_law_names_here","_law_cells","_law_nodes","_law_deep","_law_cell","_law_wide","_law_lines","_law_k"] (defScope s__law_data) _ ["_law_cell"] ["_law_names_here"] [4] from ⟨rfl,by decide +kernel,by decide +kernel,by decide +kernel,by decide +kernel,by decide +kernel,by decide +kernel,rfl,by decide +kernel⟩) (pi_list (pv 5)) (fun C s₀ H₀ ex pn=>⟨pg_name (i:=0) (show (["_law_cell","_law_names_here"]:List Str).Nodup by decide +kernel) rfl (Or.inl rfl),pifs_nil,(pe_ix (show IxR _ (rIxL K) from ix_list) (pv 1) (pe_op op_mod (pv 0) (pe_callB (show CallR _ (.builtin "len") (rLenL K) from call_lenL) rfl T.len PySem.boot_len (pa_cons (pv 1) pa_nil))) (fun _ _=>rfl))⟩))))
      pss_nil)
      (@pss_cons _ _ _ _ _ (ps_if (pt_cmpR op_eq (pv 2) pe_int (nomark _))
      (@pss_cons _ _ _ _ _ (ps_set (i:=6) sc__law_data.nd rfl (Or.inl rfl) (pe_lst pa_nil))
      (@pss_cons _ _ _ _ _ (ps_set (i:=7) sc__law_data.nd rfl (Or.inl rfl) (pe_un un_neg pe_int))
      (@pss_cons _ _ _ _ _ (ps_for PassesOwn.never rfl (pi_list (pv 5)) (pg_name (i:=8) sc__law_data.nd rfl (Or.inl rfl))
      (@pss_cons _ _ _ _ _ (ps_set (i:=7) sc__law_data.nd rfl (Or.inl rfl) (pe_callB (call_min2 rfl) rfl T.min (by decide +kernel) (pa_cons (pe_op op_mod (pe_op op_fdiv (pv 8) pe_int) pe_int) (pa_cons (pe_op op_add (pv 7) pe_int) pa_nil))))
      (@pss_one _ _ _ (ps_expr (pe_bm PySem.F.plainAttrs_list PySem.F.slot_list_append PySem.F.type_list_append mt_append (pv 6) (pa_cons (pe_tup (pa_cons (pe_ix ix_list (pv 4) (pe_op op_mod (pv 8) (pe_callB call_lenL rfl T.len PySem.boot_len (pa_cons (pv 4) pa_nil))) (fun _ _=>rfl)) (pa_cons (pv 7) pa_nil))) pa_nil))))))
      (@pss_one _ _ _ (ps_ret (pv 6))))))
      pss_nil)
      (@pss_cons _ _ _ _ _ (ps_set (i:=9) sc__law_data.nd rfl (Or.inl rfl) (pe_op op_add pe_int (pe_op op_mod (pv 3) pe_int)))
      (@pss_cons _ _ _ _ _ (ps_set (i:=10) sc__law_data.nd rfl (Or.inl rfl) (pe_lst pa_nil))
      (@pss_cons _ _ _ _ _ (ps_for PassesOwn.never rfl (pi_range1 rfl T.range (pa_cons (pe_op op_fdiv (pv 3) (pv 9)) pa_nil)) (pg_name (i:=11) sc__law_data.nd rfl (Or.inl rfl))
      (@pss_one _ _ _ (ps_expr (pe_bm PySem.F.plainAttrs_list PySem.F.slot_list_append PySem.F.type_list_append mt_append (pv 10) (pa_cons (pe_comp (own:=["_law_cell"]) (cap:=["_law_names_here"]) (ix:=[4]) rfl (show CompScope ["_law_script","_law_begin","_law_kind","_law_many","_law_names_here","_law_cells","_law_nodes","_law_deep","_law_cell","_law_wide","_law_lines","_law_k"] (defScope s__law_data) _ ["_law_cell"] ["_law_names_here"] [4] from ⟨rfl,by decide +kernel,by decide +kernel,by decide +kernel,by decide +kernel,by decide +kernel,by decide +kernel,rfl,by decide +kernel⟩) (pi_list (pe_slice sl_list (pv 5) (po_some (pe_op op_mul (pv 11) (pv 9))) (po_some (pe_op op_add (pe_op op_mul (pv 11) (pv 9)) (pv 9))))) (fun C s₀ H₀ ex pn=>⟨pg_name (i:=0) (show (["_law_cell","_law_names_here"]:List Str).Nodup by decide +kernel) rfl (Or.inl rfl),pifs_nil,(pe_ix (show IxR _ (rIxL K) from ix_list) (pv 1) (pe_op op_mod (pv 0) (pe_callB (show CallR _ (.builtin "len") (rLenL K) from call_lenL) rfl T.len PySem.boot_len (pa_cons (pv 1) pa_nil))) (fun _ _=>rfl))⟩)) pa_nil)))))
      (@pss_one _ _ _ (ps_ret (pv 10))))))))),?_⟩
    have pick:∀ i:Int,∃ z,markS z = true ∧ atI (zs.map V.str) (i % (zs.length:Int)) = some (.str z):=fun i=>by
      obtain ⟨v,hv,_,e⟩:=atI_mod (xs:=zs.map V.str) (i:=i) (m:=(zs.length:Int)) (by omega) (by rw [List.length_map]; exact Int.le_refl _)
      obtain ⟨z,hz',rfl⟩:=List.mem_map.mp hv
      exact ⟨z,hz z hz',e⟩
    have lz:(((zs.map V.str).length:Nat):Int) = (zs.length:Int):=by rw [List.length_map]
    have intAt:∀ {cs:List Int} {i:Nat} {y:V},(cs.map V.int)[i]? = some y → ∃ c0:Int,y = .int c0:=fun {cs i y} h=>by
      obtain ⟨c0,_,rfl⟩:=List.mem_map.mp (List.mem_of_getElem? h)
      exact ⟨c0,rfl⟩
    have allM:∀ {ws:List Str},(∀ z ∈ ws,markS z = true) → (ws.map V.str).all markV = true:=fun {ws} h=>List.all_eq_true.mpr fun x hx=>by
      obtain ⟨z,hz,rfl⟩:=List.mem_map.mp hx
      exact h z hz
    refine tseq_open fun B hB=>?_
    and_intros
    refine tcomp_range (lo:=0) (n:=m) (H1:=H) (fun R r=>⟨_,rfl,m,rfl,by omega,by omega,r⟩) (fun i ys H'=>H' = H ∧ ∃ cs:List Int,ys = cs.map V.int ∧ cs.length = i) ⟨rfl,[],rfl,rfl⟩ ?_ ?_
    · rintro i ys H' R hi ⟨rfl,cs,rfl,hc⟩ hR
      simp only [tYes]
      and_intros
      exact ⟨a,ns,b + i,by rw [show ((b:Int) + (0 + (i:Int))) = ((b + i:Nat):Int) by omega],hS,fun c0=>⟨by rw [List.length_map]; exact small1000 (by omega),hR _ _ ⟨rfl,cs ++ [c0],by rw [List.map_append]; rfl,by rw [List.length_append,hc]; rfl⟩⟩⟩
    rintro ys H1 ⟨rfl,cs,rfl,hc⟩
    refine ⟨by rw [List.length_map]; exact Nat.le_of_lt (small1000 (by omega)),fun cl hcl=>?_⟩
    have sc:=Same.put (o:=.lst (cs.map V.int)) hcl
    have fc:(upd H1 cl (.lst (cs.map V.int))) cl = some (.lst (cs.map V.int)):=upd_same
    generalize (upd H1 cl (.lst (cs.map V.int))) = H2 at sc fc ⊢
    have hnl2:=sc _ _ hnl
    subst hB
    refine tseq_open fun B hB=>?_
    and_intros
    refine ite2 (fun h0=>?_) fun h0=>?_
    · refine tcomp_list (K:=K) (a:=cl) (xs:=cs.map V.int) (H1:=H2) (fun R r=>⟨_,rfl,cl,rfl,⟨_,SqL.of fc⟩,r⟩) (fun i ys H'=>H' = H2 ∧ ∃ ws:List Str,ys = ws.map V.str ∧ ws.length = i ∧ ∀ z ∈ ws,markS z = true) ⟨rfl,[],rfl,rfl,fun _ z=>nomatch z⟩ (fun i ys H' _ ⟨e,_⟩=>e ▸ SqL.of fc) ?_ ?_
      · rintro i y ys H' R hy ⟨rfl,ws,rfl,hw,hws⟩ hR
        obtain ⟨c0,rfl⟩:=intAt hy
        have hi:=(List.getElem?_eq_some_iff.mp hy).1
        rw [List.length_map] at hi
        simp only [tYes]
        and_intros
        obtain ⟨z,hz1,ez⟩:=pick c0
        refine ⟨_,SqL.of hnl2,by rw [lz]; omega,_,SqL.of hnl2,_,by rw [lz]; exact ez,by rw [List.length_map]; exact small1000 (by omega),hR _ _ ⟨rfl,ws ++ [z],by rw [List.map_append]; rfl,by rw [List.length_append,hw]; rfl,fun y hy'=>?_⟩⟩
        rcases List.mem_append.mp hy' with h | h
        · exact hws y h
        · rw [List.mem_singleton.mp h]; exact hz1
      · rintro ys H' ⟨rfl,ws,rfl,hw,hws⟩
        rw [List.length_map] at hw
        refine ⟨by rw [List.length_map]; exact Nat.le_of_lt (small1000 (by omega)),fun l hl=>k l (.row (ws.map V.str)) _ (sc.upd hl) upd_same h0.symm ⟨allM hws,by rw [List.length_map]; omega⟩⟩
    subst hB
    refine tseq_open fun B hB=>?_
    and_intros
    refine ite2 (fun h1=>?_) fun h1=>?_
    · refine ⟨by decide,fun l hl=>?_⟩
      have s3:=sc.upd (o:=.lst []) hl
      have s23:=Same.put (o:=.lst []) hl
      have f3:(upd H2 l (.lst [])) l = some (.lst []):=upd_same
      generalize (upd H2 l (.lst [])) = H3 at s3 f3 s23 ⊢
      have hl0:H2 l = none:=hl
      refine (show tFor _ _ _ _ _ _ from ?_)
      refine (show iList _ _ _ _ _ from ?_)
      refine ⟨_,rfl,cl,rfl,⟨_,SqL.of (s23 _ _ fc)⟩,for_list (xs:=cs.map V.int) (fun i σ H'=>Same H2 H' ∧ ∃ (xs:List V) (nd:List Nd) (dp:Int),H' l = some (.lst xs) ∧ NodesAt H' xs nd ∧ depthOk 0 nd ∧ nd.length = i ∧ -1 ≤ dp ∧ deepAfter 0 nd = min (dp + 1) 12 ∧ ∃ o8:Option V,StIs σ [some (.ref a),some (.int b),some (.int kd),some (.int m),some (.ref nl),some (.ref cl),some (.ref l),some (.int dp),o8,none,none,none]) ⟨s23,[],[],-1,f3,trivial,trivial,rfl,Int.le_refl _,rfl,none,StIs.rfl⟩ (fun i σ H' _ ⟨e,_⟩=>SqL.of (e _ _ fc)) ?_ ?_⟩
      · rintro i y σ H' hy ⟨s4,xs,nd,dp,hl',hnd,hdo,hni,d1,hda,o8,rfl⟩
        obtain ⟨c0,rfl⟩:=intAt hy
        have hi:=(List.getElem?_eq_some_iff.mp hy).1
        rw [List.length_map] at hi
        refine tseq_open fun B2 hB2=>?_
        and_intros
        have e0:=Int.emod_nonneg (c0 / 5) (show (13:Int) ≠ 0 by decide)
        have e1:=Int.emod_lt_of_pos (c0 / 5) (show (0:Int) < 13 by decide)
        obtain ⟨d',ed,p0,p1,p2⟩:∃ d':Int,(if dp + 1 < c0 / 5 % 13 then dp + 1 else c0 / 5 % 13) = d' ∧ 0 ≤ d' ∧ d' ≤ 12 ∧ d' ≤ dp + 1:=by
          by_cases h:dp + 1 < c0 / 5 % 13
          · rw [if_pos h]; exact ⟨_,rfl,by omega,by omega,by omega⟩
          · rw [if_neg h]; exact ⟨_,rfl,by omega,by omega,by omega⟩
        rw [ed]
        obtain ⟨z,hz1,ez⟩:=pick c0
        have lx:=hnd.length
        subst hB2
        and_intros
        refine ⟨.inl ⟨rfl,_,SqL.of hl'⟩,_,SqL.of (s4 _ _ hnl2),by rw [lz]; omega,_,SqL.of (s4 _ _ hnl2),_,by rw [lz]; exact ez,by decide,fun p hp=>?_⟩
        have sp:=Same.put (o:=.tup [.str z,.int d']) hp
        have fp:(upd H' p (.tup [.str z,.int d'])) p = some (.tup [.str z,.int d']):=upd_same
        generalize (upd H' p (.tup [.str z,.int d'])) = H5 at sp fp ⊢
        have nT:NodesAt (upd H5 l (.lst (xs ++ [.ref p]))) (xs ++ [.ref p]) (nd ++ [(z,d')]):=by
          have q:=(hnd.same sp).append (ys:=[.ref p]) (ms:=[(z,d')]) ⟨⟨p,rfl,fp⟩,trivial⟩
          exact q.tups fun b ys e=>by rw [upd_ne (ne_of e (sp _ _ hl') fun z=>nomatch z)]; exact e
        refine ⟨xs,sp _ _ hl',small1000 (by omega),same_ne (s4.trans sp) hl0,_,upd_same,_,nT,depthOk_append.mpr ⟨hdo,hz1,p0,by rw [hda]; show d' ≤ min (dp + 1) 12; omega,trivial⟩,by rw [List.length_append,hni]; rfl,d',by omega,?_,_,StIs.rfl⟩
        rw [deepAfter_append]
        rfl
      rintro σ H' ⟨s4,xs,nd,dp,hl',hnd,hdo,hni,d1,hda,o8,rfl⟩
      dsimp only
      and_intros
      rw [List.length_map] at hni
      exact k l (.forest nd) H' (sc.trans s4) ⟨xs,hl',hnd⟩ h1.symm ⟨hdo,by omega⟩
    have hk2:kd = 2:=by omega
    subst hB
    refine tseq_open fun B hB=>?_
    and_intros
    obtain ⟨w,ew,w1,w4⟩:∃ w:Nat,1 + (m:Int) % 4 = (w:Int) ∧ 1 ≤ w ∧ w ≤ 4:=⟨1 + m % 4,by omega,by omega,by omega⟩
    rw [ew]
    subst hB
    refine tseq_open fun B hB=>?_
    and_intros
    refine ⟨by decide,fun l hl=>?_⟩
    have s23:=Same.put (o:=.lst []) hl
    have f3:(upd H2 l (.lst [])) l = some (.lst []):=upd_same
    generalize (upd H2 l (.lst [])) = H3 at f3 s23 ⊢
    subst hB
    refine tseq_open fun B hB=>?_
    have ediv:(m:Int) / (w:Int) = ((m / w:Nat):Int):=rfl
    have hmw:m / w * w ≤ m:=Nat.div_mul_le_self m w
    have hml:m / w ≤ m:=Nat.div_le_self m w
    generalize m / w = un at ediv hmw hml
    refine (show tFor _ _ _ _ _ _ from ?_)
    refine (show iRng1 _ _ _ _ from ?_)
    refine split_it (fun J H4=>H4 = H3 ∧ J = Itr 0 un) (fun G hG=>?_) ?_
    · and_intros
      have:=hG _ _ ⟨rfl,rfl⟩
      refine ⟨by omega,by omega,?_⟩
      rw [ediv]
      refine ⟨by omega,by omega,?_⟩
      rw [Int.toNat_natCast]
      exact this
    rintro _ H4 ⟨hH4,rfl⟩
    subst hH4
    refine for_range (n:=un) (fun i σ H'=>Same H2 H' ∧ ∃ (ys:List V) (ls:List (List V)),H' l = some (.lst ys) ∧ RowsAt .lst H' ys ls ∧ NotIn l ys ∧ ls.length = i ∧ (∀ x ∈ ls,lineOk w x) ∧ ∃ o11:Option V,StIs σ [some (.ref a),some (.int b),some (.int kd),some (.int m),some (.ref nl),some (.ref cl),none,none,none,some (.int w),some (.ref l),o11]) ⟨s23,[],[],f3,trivial,NotIn.nil,rfl,(fun _ z=>nomatch z),none,StIs.rfl⟩ ?_ ?_
    · rintro i σ H' hi ⟨s4,ys,ls,hl',hr,hni,hli,hlo,o11,rfl⟩
      and_intros
      have hiw:i * w + w ≤ m:=by
        have:=Nat.mul_le_mul_right w (show i + 1 ≤ un from hi)
        rw [Nat.add_mul,Nat.one_mul] at this
        omega
      refine ⟨.inl ⟨rfl,_,SqL.of hl'⟩,?_⟩
      refine tcomp_listW (K:=K) (fun p1 H1=>Same H' H1 ∧ H1 p1 = some (.lst (((cs.drop (i * w)).take w).map V.int))) (fun R r=>?_) (fun p1 H1 ⟨s5,h5⟩=>?_)
      · and_intros
        refine ⟨.inl ⟨by omega,by omega⟩,.inl ⟨by omega,by omega⟩,_,SqL.of (s4 _ _ fc),fun p hp=>?_⟩
        rw [cut_natV (a:=i * w) (s:=w) (by rw [Int.zero_add,Int.natCast_mul]) (by rw [Int.zero_add,Int.natCast_add,Int.natCast_mul]) (by rw [List.length_map]; omega),← List.map_drop,← List.map_take]
        exact ⟨⟨_,SqL.of upd_same⟩,r _ _ ⟨Same.put hp,upd_same⟩⟩
      refine tcomp_list (K:=K) (a:=p1) (xs:=((cs.drop (i * w)).take w).map V.int) (H1:=H1) (fun R r=>r) (fun i5 ys5 H6=>H6 = H1 ∧ ∃ ws:List Str,ys5 = ws.map V.str ∧ ws.length = i5 ∧ ∀ z ∈ ws,markS z = true) ⟨rfl,[],rfl,rfl,fun _ z=>nomatch z⟩ (fun i ys H' _ ⟨e,_⟩=>e ▸ SqL.of h5) ?_ ?_
      · rintro i5 y ys5 H6 R hy ⟨rfl,ws,rfl,hw,hws⟩ hR
        obtain ⟨c0,rfl⟩:=intAt hy
        have hi5:=(List.getElem?_eq_some_iff.mp hy).1
        rw [List.length_map,List.length_take] at hi5
        simp only [tYes]
        and_intros
        have hnl6:=s5 _ _ (s4 _ _ hnl2)
        obtain ⟨z,hz1,ez⟩:=pick c0
        refine ⟨_,SqL.of hnl6,by rw [lz]; omega,_,SqL.of hnl6,_,by rw [lz]; exact ez,by rw [List.length_map]; exact small1000 (by omega),hR _ _ ⟨rfl,ws ++ [z],by rw [List.map_append]; rfl,by rw [List.length_append,hw]; rfl,fun y hy'=>?_⟩⟩
        rcases List.mem_append.mp hy' with h | h
        · exact hws y h
        · rw [List.mem_singleton.mp h]; exact hz1
      · rintro ys5 H6 ⟨rfl,ws,rfl,hw,hws⟩
        rw [List.length_map,List.length_take,List.length_drop] at hw
        have lw:ws.length = w:=by omega
        refine ⟨by rw [List.length_map]; exact Nat.le_of_lt (small1000 (by omega)),fun q hq=>?_⟩
        have s6:=Same.put (o:=.lst (ws.map V.str)) hq
        have f6:(upd H6 q (.lst (ws.map V.str))) q = some (.lst (ws.map V.str)):=upd_same
        generalize (upd H6 q (.lst (ws.map V.str))) = H7 at s6 f6 ⊢
        have lA:=s5 _ _ hl'
        have ql:q ≠ l:=Ne.symm (ne_of_none lA hq)
        have rr:=((hr.same (s5.trans s6)).append (ys:=[.ref q]) (ms:=[ws.map V.str]) ⟨⟨q,rfl,f6⟩,trivial⟩).updl (o:=.lst (ys ++ [.ref q])) (hni.add ql)
        have lr:=hr.length
        refine ⟨_,s6 _ _ lA,small1000 (by omega),same_ne ((s4.trans s5).trans s6) hl,_,upd_same,_,rr,hni.add ql,by rw [List.length_append,hli]; rfl,fun x hx=>?_,_,StIs.rfl⟩
        rcases List.mem_append.mp hx with h | h
        · exact hlo x h
        · rw [List.mem_singleton.mp h]; exact ⟨by rw [List.length_map]; exact lw,allM hws⟩
    rintro σ H' ⟨s4,ys,ls,hl',hr,hni,hli,hlo,o11,rfl⟩
    dsimp only
    subst hB
    and_intros
    exact k l (.table ls (wideT ls)) H' (sc.trans s4) ⟨ys,hl',hr,rfl⟩ hk2.symm (tab_ok (by omega) hlo (by omega))
theorem ok__law_thing {f:Addr} {fd:FuncData} (D:Def K mg "_law_thing" s__law_thing ["_law_kind","_law_data_here"] f fd) (T:Txt K mg ad) {f_Row_init:Addr} {fd_Row_init:FuncData} (G_Row_init:FnOk P w K mg base (CX1 P w) 3 f_Row_init fd_Row_init ["self","marks"] (sp_Row_init ad)) {f_Forest_init:Addr} {fd_Forest_init:FuncData} (G_Forest_init:FnOk P w K mg base (CX1 P w) 4 f_Forest_init fd_Forest_init ["self","nodes"] (sp_Forest_init ad)) {f_Table_init:Addr} {fd_Table_init:FuncData} (G_Table_init:FnOk P w K mg base (CX1 P w) 4 f_Table_init fd_Table_init ["self","lines"] (sp_Table_init ad)) (B_Row_init:Binds K fd_Row_init ["self","marks"] []) (B_Forest_init:Binds K fd_Forest_init ["self","nodes"] []) (B_Table_init:Binds K fd_Table_init ["self","lines"] []) (M_Row:Mk K ad.Row f_Row_init) (M_Forest:Mk K ad.Forest f_Forest_init) (M_Table:Mk K ad.Table f_Table_init):FnOk P w K mg base CX0 6 f fd ["_law_kind","_law_data_here"] (sp__law_thing ad):=by
  refine D.F.ok sc__law_thing (fun vs H Q E h=>?_) (fun cdv A outer s H vs Q E hr h=>?_)
  · obtain ⟨l0,d,rfl,_⟩:=h
    rfl
  · obtain ⟨l0,d,rfl,hraw,dO,k⟩:=h
    refine ⟨_,(@pss_cons _ _ _ _ _ (ps_if (pt_cmpR op_eq (pv 0) pe_int (nomark _))
      (@pss_one _ _ _ (ps_ret (pe_make M_Row G_Row_init (hr.mono (by decide)) rfl T.c_Row B_Row_init .nil passE (pa_cons (pe_callTy call_listL rfl T.list PyProof.Rows.boot_list (pa_cons (pv 1) pa_nil)) pa_nil))))
      pss_nil)
      (@pss_cons _ _ _ _ _ (ps_if (pt_cmpR op_eq (pv 0) pe_int (nomark _))
      (@pss_one _ _ _ (ps_ret (pe_make M_Forest G_Forest_init (hr.mono (by decide)) rfl T.c_Forest B_Forest_init .nil passE (pa_cons (pe_callTy call_listL rfl T.list PyProof.Rows.boot_list (pa_cons (pv 1) pa_nil)) pa_nil))))
      pss_nil)
      (@pss_one _ _ _ (ps_ret (pe_make M_Table G_Table_init (hr.mono (by decide)) rfl T.c_Table B_Table_init .nil passE (pa_cons (pe_comp (own:=["_law_line"]) (cap:=[]) (ix:=[]) rfl (show CompScope ["_law_kind","_law_data_here"] (defScope s__law_thing) _ ["_law_line"] [] [] from ⟨rfl,by decide +kernel,by decide +kernel,by decide +kernel,by decide +kernel,by decide +kernel,by decide +kernel,rfl,by decide +kernel⟩) (pi_list (pv 1)) (fun C s₀ H₀ ex pn=>⟨pg_name (i:=0) (show (["_law_line"]:List Str).Nodup by decide +kernel) rfl (Or.inl rfl),pifs_nil,(pe_callTy (show CallR _ (.type "list") (rListL K) from call_listL) rfl T.list PyProof.Rows.boot_list (pa_cons (pv 0) pa_nil))⟩)) pa_nil)))))),?_⟩
    and_intros
    cases d with
    | row xs =>
      have h2:H l0 = some (.lst xs):=hraw
      refine (show if (0:Int) = 0 then _ else _ from ?_)
      rw [if_pos rfl]
      refine ⟨_,SqL.of h2,fun l hl x dx hx hdx hne=>?_⟩
      have s3:=Same.put (o:=.lst xs) hl
      have f3:(upd H l (.lst xs)) l = some (.lst xs):=upd_same
      generalize (upd H l (.lst xs)) = H3 at s3 f3 hx hdx ⊢
      have s67:Same H3 (upd (upd H3 dx (.own x)) x (.ins ad.Row dx [])):=(Same.put hdx).upd (by rw [upd_ne (Ne.symm hne)]; exact hx)
      refine ⟨x,dx,.ref l,rfl,upd_same,thg2_lst (s67 _ _ f3) (thg_mark dO.1),fun a' xs' e h _ _ H8 hrow sb=>⟨rfl,?_⟩,fun hb=>absurd ⟨l,_,rfl,s67 _ _ f3,dO.2,dO.1⟩ hb⟩
      cases e
      rw [s67 _ _ f3] at h
      cases h
      exact k x H8 (s3.trans fun b o e=>sb b o (ne_of_none e hx) (s67 b o e)) hrow
    | forest ns =>
      obtain ⟨ys,h2,h3⟩:=hraw
      have hlen:=h3.length
      refine (show if (1:Int) = 0 then _ else if (1:Int) = 1 then _ else _ from ?_)
      rw [if_neg (by decide),if_pos rfl]
      refine ⟨_,SqL.of h2,fun l hl x dx hx hdx hne=>?_⟩
      have s3:=Same.put (o:=.lst ys) hl
      have f3:(upd H l (.lst ys)) l = some (.lst ys):=upd_same
      generalize (upd H l (.lst ys)) = H3 at s3 f3 hx hdx ⊢
      have n8:∀ n ∈ ns,n.1.length ≤ 1000:=fun n h=>by have:=(mark_all (depthOk_all dO.1 n h).1).2.1; omega
      have s67:Same H3 (upd (upd H3 dx (.own x)) x (.ins ad.Forest dx [])):=(Same.put hdx).upd (by rw [upd_ne (Ne.symm hne)]; exact hx)
      have hn7:=(h3.same s3).same s67
      refine ⟨x,dx,.ref l,rfl,upd_same,thg4_lst (s67 _ _ f3) (hn7.thg3 n8),fun a' xs' ns' e h _ hm' _ H8 hfor sb=>⟨rfl,?_⟩,fun hb=>absurd ⟨l,_,_,rfl,s67 _ _ f3,by have:=dO.2; omega,hn7,dO.1⟩ hb⟩
      cases e
      rw [s67 _ _ f3] at h
      cases h
      have:=hm'.uniq hn7
      subst this
      exact k x H8 (s3.trans fun b o e=>sb b o (ne_of_none e hx) (s67 b o e)) ⟨hfor,dO.1,dO.2⟩
    | table ls w =>
      obtain ⟨ys,h2,h3,h4⟩:=hraw
      have hlen:=h3.length
      have l12:=dO.2.1
      refine (show if (2:Int) = 0 then _ else if (2:Int) = 1 then _ else _ from ?_)
      rw [if_neg (by decide),if_neg (by decide)]
      refine tcomp_list (K:=K) (a:=l0) (xs:=ys) (H1:=H) (fun R rr=>?_) (fun i zs H'=>Same H H' ∧ RowsAt .lst H' zs (ls.take i)) ⟨Same.refl H,by rw [List.take_zero]; trivial⟩ (fun i zs H' _ ⟨e,_⟩=>SqL.of (e _ _ h2)) ?_ ?_
      · and_intros
        exact ⟨⟨_,SqL.of h2⟩,rr⟩
      · rintro i y zs H' R hy ⟨s1,r1⟩ hR
        obtain ⟨l1,e1,q,rfl,hq⟩:=h3.get hy
        have hy':=r1.length
        rw [List.length_take] at hy'
        simp only [tYes]
        and_intros
        refine ⟨_,SqL.of (s1 _ _ hq),fun p hp=>⟨small1000 (by omega),hR _ _ ⟨s1.upd hp,?_⟩⟩⟩
        rw [List.take_add_one,e1]
        exact (r1.same (Same.put hp)).append ⟨⟨p,rfl,upd_same⟩,trivial⟩
      rintro zs H' ⟨s1,r1⟩
      rw [hlen,List.take_length] at r1
      have hlz:=r1.length
      refine ⟨Nat.le_of_lt (small1000 (by omega)),fun l hl x dx hx hdx hne=>?_⟩
      have s3:=s1.upd (o:=.lst zs) hl
      have f3:(upd H' l (.lst zs)) l = some (.lst zs):=upd_same
      have r3:=r1.same (Same.put (o:=.lst zs) hl)
      generalize (upd H' l (.lst zs)) = H3 at s3 f3 r3 hx hdx ⊢
      have s67:Same H3 (upd (upd H3 dx (.own x)) x (.ins ad.Table dx [])):=(Same.put hdx).upd (by rw [upd_ne (Ne.symm hne)]; exact hx)
      have hr7:=r3.same s67
      have htb:tabOk ls:=⟨w,dO.1,dO.2.2⟩
      have hmk:∀ l ∈ ls,l.all markV = true:=fun l hl=>(dO.2.2 l hl).2
      refine ⟨x,dx,.ref l,rfl,upd_same,⟨.lst (s67 _ _ f3),fun a' xs' e h y hy=>?_⟩,fun a' xs' ls' e h _ hm' _ H8 htab sb=>⟨rfl,?_⟩,fun hb=>absurd ⟨l,_,_,rfl,s67 _ _ f3,by omega,hr7,htb⟩ hb⟩
      · cases e
        rw [s67 _ _ f3] at h
        cases h
        exact hr7.thg2 hmk y hy
      cases e
      rw [s67 _ _ f3] at h
      cases h
      have:=hm'.uniq hr7
      subst this
      rw [← h4] at htab
      exact k x H8 (s3.trans fun b o e=>sb b o (ne_of_none e hx) (s67 b o e)) htab
theorem ok__law_spots {f:Addr} {fd:FuncData} (D:Def K mg "_law_spots" s__law_spots ["_law_kind","_law_data_here"] f fd) (T:Txt K mg ad):FnOk P w K mg base CX0 1 f fd ["_law_kind","_law_data_here"] sp__law_spots:=by
  refine D.F.ok sc__law_spots (fun vs H Q E h=>?_) (fun cdv A outer s H vs Q E hr h=>?_)
  · obtain ⟨l,d,rfl,_⟩:=h
    rfl
  · obtain ⟨l,d,rfl,hd,dO,k⟩:=h
    refine ⟨_,(@pss_cons _ _ _ _ _ (ps_if (pt_cmpR op_eq (pv 0) pe_int (nomark _))
      (@pss_one _ _ _ (ps_ret (pe_callTy call_listL rfl T.list PyProof.Rows.boot_list (pa_cons (pv 1) pa_nil))))
      pss_nil)
      (@pss_cons _ _ _ _ _ (ps_if (pt_cmpR op_eq (pv 0) pe_int (nomark _))
      (@pss_one _ _ _ (ps_ret (pe_comp (own:=["_law_mark","_law_deep"]) (cap:=[]) (ix:=[]) rfl (show CompScope ["_law_kind","_law_data_here","_law_found","_law_line"] (defScope s__law_spots) _ ["_law_mark","_law_deep"] [] [] from ⟨rfl,by decide +kernel,by decide +kernel,by decide +kernel,by decide +kernel,by decide +kernel,by decide +kernel,rfl,by decide +kernel⟩) (pi_list (pv 1)) (fun C s₀ H₀ ex pn=>⟨(show PG _ _ (gTup K 2 (gCons (gName 0) (gCons (gName 1) gNil))) from pg_two (i:=0) (j:=1) rfl (show (["_law_mark","_law_deep"]:List Str).Nodup by decide +kernel) rfl rfl (Or.inl rfl) (Or.inl rfl)),pifs_nil,(pv 0)⟩))))
      pss_nil)
      (@pss_cons _ _ _ _ _ (ps_set (i:=2) sc__law_spots.nd rfl (Or.inl rfl) (pe_lst pa_nil))
      (@pss_cons _ _ _ _ _ (ps_for PassesOwn.never rfl (pi_list (pv 1)) (pg_name (i:=3) sc__law_spots.nd rfl (Or.inl rfl))
      (@pss_one _ _ _ (ps_set (i:=2) sc__law_spots.nd rfl (Or.inl rfl) (pe_op op_cat (pv 2) (pv 3)))))
      (@pss_one _ _ _ (ps_ret (pv 2))))))),?_⟩
    refine tseq_open fun B hB=>?_
    and_intros
    cases d with
    | row xs =>
      have h2:H l = some (.lst xs):=hd
      rw [show kindN (.row xs) = 0 from rfl,if_pos rfl]
      exact ⟨_,SqL.of h2,fun p hp=>k p _ (Same.put hp) upd_same⟩
    | forest ns =>
      obtain ⟨ts,h2,h3⟩:=hd
      rw [show kindN (.forest ns) = 1 from rfl,if_neg (by decide)]
      subst hB
      refine tseq_open fun B hB=>?_
      and_intros
      have hlen:=h3.length
      have h40:=dO.2
      refine tcomp_list2 (K:=K) (a:=l) (xs:=ts) (H1:=H) (fun R rr=>⟨_,rfl,l,rfl,⟨_,SqL.of h2⟩,rr⟩) (fun i zs H'=>H' = H ∧ zs = (ns.take i).map fun n=>V.str n.1) ⟨rfl,rfl⟩ (fun i zs H' _ ⟨e,_⟩=>e ▸ SqL.of h2) ?_ ?_
      · rintro i y zs H' hy ⟨rfl,rfl⟩
        obtain ⟨n1,e1,t,rfl,ht⟩:=h3.get hy
        refine ⟨t,.str n1.1,.int n1.2,rfl,SqT.of ht,fun R hR=>?_⟩
        simp only [tYes]
        and_intros
        refine ⟨small1000 (by rw [List.length_map,List.length_take]; omega),hR _ _ ⟨rfl,?_⟩⟩
        rw [List.take_add_one,e1,List.map_append]
        rfl
      · rintro zs H' ⟨rfl,rfl⟩
        rw [hlen,List.take_length]
        exact ⟨Nat.le_of_lt (small1000 (by rw [List.length_map]; omega)),fun p hp=>k p _ (Same.put hp) upd_same⟩
    | table ls w =>
      obtain ⟨ys,h2,h3,h4⟩:=hd
      rw [show kindN (.table ls w) = 2 from rfl,if_neg (by decide)]
      subst hB
      refine tseq_open fun B hB=>?_
      and_intros
      rw [if_neg (by decide)]
      subst hB
      refine tseq_open fun B hB=>?_
      and_intros
      refine ⟨by decide,fun l0 hl0=>?_⟩
      have s0:=Same.put (o:=.lst []) hl0
      have f0:(upd H l0 (.lst [])) l0 = some (.lst []):=upd_same
      generalize (upd H l0 (.lst [])) = H0 at s0 f0 ⊢
      subst hB
      refine tseq_open fun B hB=>?_
      refine (show tFor _ _ _ _ _ _ from ?_)
      refine (show iList _ _ _ _ _ from ?_)
      have hfl:ls.flatten.length ≤ 144:=by rw [flat_le dO.2.2]; exact Nat.mul_le_mul dO.2.1 dO.1
      refine ⟨_,rfl,l,rfl,⟨_,SqL.of (s0 _ _ h2)⟩,for_list (xs:=ys) (fun i σ H'=>Same H H' ∧ ∃ (lf:Addr) (o:Option V),H' lf = some (.lst (ls.take i).flatten) ∧ StIs σ [some (.int 2),some (.ref l),some (.ref lf),o]) ⟨s0,l0,none,f0,StIs.rfl⟩ (fun i σ H' _ ⟨e,_⟩=>SqL.of (e _ _ h2)) ?_ ?_⟩
      · rintro i y σ H' hy ⟨s1,lf,o,hf,rfl⟩
        obtain ⟨l1,e1,q,rfl,hq⟩:=h3.get hy
        have ft:(ls.take (i + 1)).flatten = (ls.take i).flatten ++ l1:=by
          rw [List.take_add_one,e1,List.flatten_append]
          simp
        have fl:(ls.take (i + 1)).flatten.length ≤ ls.flatten.length:=by
          conv=>rhs; rw [← List.take_append_drop (i + 1) ls,List.flatten_append,List.length_append]
          omega
        rw [ft,List.length_append] at fl
        and_intros
        refine ⟨_,hf,_,s1 _ _ hq,Nat.le_of_lt (small1000 (by omega)),fun p hp=>⟨s1.upd hp,p,?_,_,StIs.rfl⟩⟩
        rw [upd_same,ft]
      rintro σ H' ⟨s1,lf,o,hf,rfl⟩
      dsimp only
      subst hB
      and_intros
      rw [h3.length,List.take_length] at hf
      exact k lf H' s1 hf
theorem ok__law_next_deep {f:Addr} {fd:FuncData} (D:Def K mg "_law_next_deep" s__law_next_deep ["_law_data_here","_law_i"] f fd) (T:Txt K mg ad):FnOk P w K mg base CX0 1 f fd ["_law_data_here","_law_i"] sp__law_next_deep:=by
  refine D.F.ok sc__law_next_deep (fun vs H Q E h=>?_) (fun cdv A outer s H vs Q E hr h=>?_)
  · obtain ⟨l,ns,i,rfl,_⟩:=h
    rfl
  · obtain ⟨l,ns,i,rfl,hd,hi,hn,k⟩:=h
    refine ⟨_,(@pss_cons _ _ _ _ _ (ps_set (i:=2) sc__law_next_deep.nd rfl (Or.inl rfl) (pe_op op_add (pv 1) pe_int))
      (@pss_cons _ _ _ _ _ (ps_while PassesOwn.never (PW.pt (pw_and (pt_cmpR op_lt (pv 2) (pe_callB call_lenL rfl T.len PySem.boot_len (pa_cons (pv 0) pa_nil)) (nomark _)) (pw_and1 (pt_cmpR op_gt (pe_ix ix_tup (pe_ix ix_list (pv 0) (pv 2) (fun _ _=>rfl)) pe_int (fun _ _=>rfl)) (pe_ix ix_tup (pe_ix ix_list (pv 0) (pv 1) (fun _ _=>rfl)) pe_int (fun _ _=>rfl)) (nomark _)))))
      (@pss_one _ _ _ (ps_set (i:=2) sc__law_next_deep.nd rfl (Or.inl rfl) (pe_op op_add (pv 2) pe_int))))
      (@pss_one _ _ _ (ps_ret (pv 2))))),?_⟩
    obtain ⟨xs,h3,h4⟩:=hd
    have hlen:=h4.length
    refine tseq_open fun B hB=>?_
    and_intros
    subst hB
    refine tseq_open fun B hB=>?_
    and_intros
    have hkn:ns[i]? = some ns[i]:=List.getElem?_eq_getElem hi
    have eD:(ns.getD i ("",0)).2 = ns[i].2:=by rw [List.getD_eq_getElem?_getD,hkn]; rfl
    have tl:=tail_le ns i
    obtain ⟨n0,en0,t0,ex0,ht0⟩:=h4.get (List.getElem?_eq_getElem (by omega:i < xs.length))
    have e0:atI xs (i:Int) = some (.ref t0):=by rw [← ex0]; exact atI_nat (List.getElem?_eq_getElem (by omega))
    rw [hkn] at en0
    cases en0
    refine ⟨fun m σ H'=>H' = H ∧ ∃ j:Nat,j + m = tailN ns i ∧ StIs σ [some (.ref l),some (.int (i:Nat)),some (.int ((i:Int) + 1 + (j:Int)))],⟨tailN ns i,rfl,0,by omega,by rw [show (i:Int) + 1 + ((0:Nat):Int) = (i:Int) + 1 by omega]; exact StIs.rfl⟩,?_⟩
    rintro m σ H' ⟨rfl,j,hj,rfl⟩
    and_intros
    have fin:j = tailN ns i → B ({ nx:=fun _ H'=>Q .non H',rt:=Q }:Ends) [some (.ref l),some (.int (i:Nat)),some (.int ((i:Int) + 1 + (j:Int)))] H':=fun e=>by
      subst hB
      and_intros
      rw [show (i:Int) + 1 + (j:Int) = ((i + tailN ns i + 1:Nat):Int) by omega]
      exact k
    have nx:∀ {j:Nat} {n:Nd},j ≤ tailN ns i → ns[i + 1 + j]? = some n → (ns[i].2 < n.2 ↔ j < tailN ns i):=fun {j n} hj hn=>by
      rcases Nat.lt_or_ge j (tailN ns i) with h | h
      · obtain ⟨n',h1,h2⟩:=tail_lt h
        rw [hn] at h1
        cases h1
        rw [eD] at h2
        exact ⟨fun _=>h,fun _=>h2⟩
      · have ej:j = tailN ns i:=by omega
        subst ej
        have:=tail_stop hn
        rw [eD] at this
        exact ⟨fun h=>absurd h this,fun h=>absurd h (Nat.lt_irrefl _)⟩
    refine ⟨_,SqL.of h3,ite2 (fun hlt=>?_) fun hlt=>?_⟩
    · obtain ⟨n1,en1,t1,ex1,ht1⟩:=h4.get (List.getElem?_eq_getElem (by omega:i + 1 + j < xs.length))
      have e1:atI xs ((i:Int) + 1 + (j:Int)) = some (.ref t1):=by
        rw [← ex1,show ((i:Int) + 1 + (j:Int)) = ((i + 1 + j:Nat):Int) by omega]
        exact atI_nat (List.getElem?_eq_getElem (by omega))
      have nx1:=nx (by omega) en1
      refine ⟨_,SqL.of h3,_,e1,t1,rfl,_,SqT.of ht1,_,rfl,_,SqL.of h3,_,e0,t0,rfl,_,SqT.of ht0,_,rfl,_,rfl,_,rfl,ite2 (fun hx=>?_) fun hx=>?_⟩
      · have hjt:=nx1.mp hx
        refine ⟨fun σ' H1=>H1 = H' ∧ StIs σ' [some (.ref l),some (.int (i:Nat)),some (.int ((i:Int) + 1 + ((j + 1:Nat):Int)))],fun σ' H1 ⟨e2,e3⟩=>⟨m - 1,by omega,e2,j + 1,by omega,e3⟩,rfl,?_⟩
        rw [show (i:Int) + 1 + (j:Int) + 1 = (i:Int) + 1 + ((j + 1:Nat):Int) by omega]
        exact StIs.rfl
      · have:¬ j < tailN ns i:=fun h=>hx (nx1.mpr h)
        exact fin (by omega)
    · have:¬ j < tailN ns i:=fun h=>by
        obtain ⟨n',h1,_⟩:=tail_lt h
        have:=(List.getElem?_eq_some_iff.mp h1).1
        omega
      exact fin (by omega)
theorem ok__law_pairs {f:Addr} {fd:FuncData} (D:Def K mg "_law_pairs" s__law_pairs ["_law_kind","_law_data_here","_law_word"] f fd) (T:Txt K mg ad) {f__law_spots:Addr} {fd__law_spots:FuncData} (G__law_spots:FnOk P w K mg base CX0 1 f__law_spots fd__law_spots ["_law_kind","_law_data_here"] sp__law_spots) {f__law_next_deep:Addr} {fd__law_next_deep:FuncData} (G__law_next_deep:FnOk P w K mg base CX0 1 f__law_next_deep fd__law_next_deep ["_law_data_here","_law_i"] sp__law_next_deep) (D__law_spots:Def K mg "_law_spots" s__law_spots ["_law_kind","_law_data_here"] f__law_spots fd__law_spots) (D__law_next_deep:Def K mg "_law_next_deep" s__law_next_deep ["_law_data_here","_law_i"] f__law_next_deep fd__law_next_deep):FnOk P w K mg base CX0 2 f fd ["_law_kind","_law_data_here","_law_word"] sp__law_pairs:=by
  refine D.F.ok sc__law_pairs (fun vs H Q E h=>?_) (fun cdv A outer s H vs Q E hr h=>?_)
  · obtain ⟨l,d,w,rfl,_⟩:=h
    rfl
  · obtain ⟨l,d,w,rfl,hd,dO,hw,k⟩:=h
    refine ⟨_,(@pss_cons _ _ _ _ _ (ps_set (i:=3) sc__law_pairs.nd rfl (Or.inl rfl) (pe_call G__law_spots (hr.mono (by decide)) rfl D__law_spots.mg D__law_spots.F.kp D__law_spots.b .nil pass0 (pa_cons (pv 0) (pa_cons (pv 1) pa_nil))))
      (@pss_cons _ _ _ _ _ (ps_set (i:=4) sc__law_pairs.nd rfl (Or.inl rfl) (pe_lst pa_nil))
      (@pss_cons _ _ _ _ _ (ps_for PassesOwn.never rfl (pi_range1 rfl T.range (pa_cons (pe_callB call_lenL rfl T.len PySem.boot_len (pa_cons (pv 3) pa_nil)) pa_nil)) (pg_name (i:=5) sc__law_pairs.nd rfl (Or.inl rfl))
      (@pss_one _ _ _ (ps_for PassesOwn.never rfl (pi_range2 rfl T.range (pa_cons (pe_op op_add (pv 5) pe_int) (pa_cons (pe_callB call_lenL rfl T.len PySem.boot_len (pa_cons (pv 3) pa_nil)) pa_nil))) (pg_name (i:=6) sc__law_pairs.nd rfl (Or.inl rfl))
      (@pss_cons _ _ _ _ _ (ps_set (i:=7) sc__law_pairs.nd rfl (Or.inl rfl) (pe_cmpR op_eq (pv 2) pe_str (nomark _)))
      (@pss_cons _ _ _ _ _ (ps_if (PW.pt (pw_and (pt_cmpR op_eq (pv 0) pe_int (nomark _)) (pw_and1 (pt_cmpR op_eq (pv 2) pe_str (nomark _)))))
      (@pss_one _ _ _ (ps_set (i:=7) sc__law_pairs.nd rfl (Or.inl rfl) (pe_cmpR op_eq (pv 6) (pe_op op_add (pv 5) pe_int) (nomark _))))
      pss_nil)
      (@pss_cons _ _ _ _ _ (ps_if (PW.pt (pw_and (pt_cmpR op_eq (pv 0) pe_int (nomark _)) (pw_and1 (pt_cmpR op_eq (pv 2) pe_str (nomark _)))))
      (@pss_one _ _ _ (ps_set (i:=7) sc__law_pairs.nd rfl (Or.inl rfl) (pe_cmpR op_lt (pv 6) (pe_call G__law_next_deep (hr.mono (by decide)) rfl D__law_next_deep.mg D__law_next_deep.F.kp D__law_next_deep.b .nil pass0 (pa_cons (pv 1) (pa_cons (pv 5) pa_nil))) (nomark _))))
      pss_nil)
      (@pss_cons _ _ _ _ _ (ps_if (PW.pt (pw_and (pt_cmpR op_eq (pv 0) pe_int (nomark _)) (pw_and1 (pt_cmpR op_eq (pv 2) pe_str (nomark _)))))
      (@pss_one _ _ _ (ps_set (i:=7) sc__law_pairs.nd rfl (Or.inl rfl) (pe_and (pe_cmpR op_eq (pv 6) (pe_call G__law_next_deep (hr.mono (by decide)) rfl D__law_next_deep.mg D__law_next_deep.F.kp D__law_next_deep.b .nil pass0 (pa_cons (pv 1) (pa_cons (pv 5) pa_nil))) (nomark _)) (pe_one (pe_cmpR op_eq (pe_ix ix_tup (pe_ix ix_list (pv 1) (pv 6) (fun _ _=>rfl)) pe_int (fun _ _=>rfl)) (pe_ix ix_tup (pe_ix ix_list (pv 1) (pv 5) (fun _ _=>rfl)) pe_int (fun _ _=>rfl)) (nomark _))))))
      pss_nil)
      (@pss_cons _ _ _ _ _ (ps_if (PW.pt (pw_and (pt_cmpR op_eq (pv 0) pe_int (nomark _)) (pw_and1 (pt_cmpR op_eq (pv 2) pe_str (nomark _)))))
      (@pss_one _ _ _ (ps_set (i:=7) sc__law_pairs.nd rfl (Or.inl rfl) (pe_cmpR op_eq (pe_op op_mod (pe_op op_sub (pv 6) (pv 5)) (pe_callB call_lenL rfl T.len PySem.boot_len (pa_cons (pe_ix ix_list (pv 1) pe_int (fun _ _=>rfl)) pa_nil))) pe_int (nomark _))))
      pss_nil)
      (@pss_cons _ _ _ _ _ (ps_if (PW.pt (pw_and (pt_cmpR op_eq (pv 0) pe_int (nomark _)) (pw_and1 (pt_cmpR op_eq (pv 2) pe_str (nomark _)))))
      (@pss_one _ _ _ (ps_set (i:=7) sc__law_pairs.nd rfl (Or.inl rfl) (pe_and (pe_cmpR op_eq (pv 6) (pe_op op_add (pv 5) pe_int) (nomark _)) (pe_one (pe_cmpR op_gt (pe_op op_mod (pv 6) (pe_callB call_lenL rfl T.len PySem.boot_len (pa_cons (pe_ix ix_list (pv 1) pe_int (fun _ _=>rfl)) pa_nil))) pe_int (nomark _))))))
      pss_nil)
      (@pss_one _ _ _ (ps_if (pt_val (pv 7))
      (@pss_one _ _ _ (ps_expr (pe_bm PySem.F.plainAttrs_list PySem.F.slot_list_append PySem.F.type_list_append mt_append (pv 4) (pa_cons (pe_tup (pa_cons (pe_ix ix_list (pv 3) (pv 5) (fun _ _=>rfl)) (pa_cons (pe_ix ix_list (pv 3) (pv 6) (fun _ _=>rfl)) pa_nil))) pa_nil))))
      pss_nil)))))))))))
      (@pss_one _ _ _ (ps_ret (pv 4)))))),?_⟩
    refine tseq_open fun B hB=>?_
    and_intros
    refine ⟨l,d,rfl,hd,dO,fun p H1 s1 h1=>?_⟩
    have hN:=spots144 dO
    have hd1:=hd.same s1
    subst hB
    refine tseq_open fun B hB=>?_
    and_intros
    refine ⟨by decide,fun f hf=>?_⟩
    have s2:=Same.put (o:=.lst []) hf
    have f2:(upd H1 f (.lst [])) f = some (.lst []):=upd_same
    generalize (upd H1 f (.lst [])) = H2 at s2 f2 ⊢
    subst hB
    refine tseq_open fun B hB=>?_
    refine (show tFor _ _ _ _ _ _ from ?_)
    refine (show iRng1 _ _ _ _ from ?_)
    refine split_it (fun J H3=>H3 = H2 ∧ J = Itr 0 (spotsD d).length) (fun G' hG=>?_) ?_
    · and_intros
      exact ⟨_,SqL.of (s2 _ _ h1),by omega,by omega,hG _ _ ⟨rfl,rfl⟩⟩
    rintro _ H3 ⟨hH3,rfl⟩
    subst hH3
    refine for_range (n:=(spotsD d).length) (fun i σ H'=>Same H1 H' ∧ (∃ ys,H' f = some (.lst ys) ∧ RowsAt .tup H' ys (pairsO d w (preN (spotsD d).length i))) ∧ ∃ o5 o6 o7:Option V,StIs σ [some (.int (kindN d)),some (.ref l),some (.str w),some (.ref p),some (.ref f),o5,o6,o7]) ⟨s2,⟨[],f2,trivial⟩,none,none,none,StIs.rfl⟩ ?_ ?_
    · rintro i σ H' hi ⟨s3,hD,p5,p6,p7,rfl⟩
      and_intros
      refine (show iRng2 _ _ _ _ from ?_)
      refine split_it (fun J H4=>H4 = H' ∧ J = Itr ((i:Int) + 1) ((spotsD d).length - (i + 1))) (fun G' hG=>?_) ?_
      · and_intros
        have:=hG _ _ ⟨rfl,rfl⟩
        rw [show (spotsD d).length - (i + 1) = (((spotsD d).length:Int) - (0 + (i:Int) + 1)).toNat by omega,show (i:Int) + 1 = 0 + (i:Int) + 1 by omega] at this
        exact ⟨_,SqL.of (s3 _ _ h1),by omega,by omega,by omega,by omega,this⟩
      rintro _ H4 ⟨hH4,rfl⟩
      subst hH4
      refine for_range (n:=(spotsD d).length - (i + 1)) (fun j σ H'=>Same H1 H' ∧ (∃ ys,H' f = some (.lst ys) ∧ RowsAt .tup H' ys (pairsO d w (preN (spotsD d).length i ++ (List.range j).map fun j=>(i,i + 1 + j)))) ∧ ∃ o6 o7:Option V,StIs σ [some (.int (kindN d)),some (.ref l),some (.str w),some (.ref p),some (.ref f),some (.int (0 + (i:Int))),o6,o7]) ⟨s3,by rw [List.range_zero,List.map_nil,List.append_nil]; exact hD,_,_,StIs.rfl⟩ ?_ ?_
      · rintro j σ H' hj ⟨s4,⟨ys,hf4,hr4⟩,p6,p7,rfl⟩
        have hl4:i + 1 + j < (spotsD d).length:=by omega
        have hd4:=hd1.same s4
        refine tseq_open fun B2 hB2=>?_
        and_intros
        refine ends_gen fun D0 hD0=>?_
        dsimp only at hD0
        generalize e0:decide (w = Str.ofString "before") = b0
        subst hB2
        refine tseq_open fun B2 hB2=>?_
        suffices fin:∀ b',((kindN d = 0 ∧ w = Str.ofString "beside") → b' = relK d w i (i + 1 + j)) → (¬ (kindN d = 0 ∧ w = Str.ofString "beside") → b' = b0) → B2 D0 [some (.int (kindN d)),some (.ref l),some (.str w),some (.ref p),some (.ref f),some (.int (0 + (i:Int))),some (.int ((i:Int) + 1 + (j:Int))),some (.bl b')] H' by
          and_intros
          refine ite2 (fun hk=>ite2 (fun hx=>?_) fun hx=>fin _ (fun h=>absurd h.2 hx) fun _=>rfl) fun hk=>fin _ (fun h=>absurd h.1 hk) fun _=>rfl
          refine fin _ (fun _=>?_) (fun h=>absurd ⟨hk,hx⟩ h)
          cases d with
          | row xs =>
            rw [hx]
            unfold relK
            rw [if_neg (by decide +kernel)]
            show decide ((i:Int) + 1 + (j:Int) = 0 + (i:Int) + 1) = (decide (Str.ofString "beside" = Str.ofString "beside") && decide (i + 1 + j = i + 1))
            rw [decide_eq_true rfl,Bool.true_and]
            exact decide_eq_decide.mpr (by omega)
          | forest ns=>exact absurd hk (show ¬ (1:Int) = 0 by decide)
          | table ls wd=>exact absurd hk (show ¬ (2:Int) = 0 by decide)
        intro b1 h1a h1b
        subst hB2
        refine tseq_open fun B2 hB2=>?_
        suffices fin:∀ b',((kindN d = 1 ∧ w = Str.ofString "under") → b' = relK d w i (i + 1 + j)) → (¬ (kindN d = 1 ∧ w = Str.ofString "under") → b' = b1) → B2 D0 [some (.int (kindN d)),some (.ref l),some (.str w),some (.ref p),some (.ref f),some (.int (0 + (i:Int))),some (.int ((i:Int) + 1 + (j:Int))),some (.bl b')] H' by
          and_intros
          refine ite2 (fun hk=>ite2 (fun hx=>?_) fun hx=>fin _ (fun h=>absurd h.2 hx) fun _=>rfl) fun hk=>fin _ (fun h=>absurd h.1 hk) fun _=>rfl
          cases d with
          | forest ns =>
            have hlf:(spotsD (.forest ns)).length = ns.length:=List.length_map _
            refine ⟨l,ns,i,by rw [Int.zero_add],hd4,by omega,dO.2,_,rfl,fin _ (fun _=>?_) (fun h=>absurd ⟨hk,hx⟩ h)⟩
            rw [hx]
            unfold relK
            rw [if_neg (by decide +kernel)]
            show _ = if Str.ofString "under" = Str.ofString "under" then decide (i + 1 + j < i + tailN ns i + 1) else _
            rw [if_pos rfl]
            exact decide_eq_decide.mpr (by omega)
          | row xs=>exact absurd hk (show ¬ (0:Int) = 1 by decide)
          | table ls wd=>exact absurd hk (show ¬ (2:Int) = 1 by decide)
        intro b2 h2a h2b
        subst hB2
        refine tseq_open fun B2 hB2=>?_
        suffices fin:∀ b',((kindN d = 1 ∧ w = Str.ofString "beside") → b' = relK d w i (i + 1 + j)) → (¬ (kindN d = 1 ∧ w = Str.ofString "beside") → b' = b2) → B2 D0 [some (.int (kindN d)),some (.ref l),some (.str w),some (.ref p),some (.ref f),some (.int (0 + (i:Int))),some (.int ((i:Int) + 1 + (j:Int))),some (.bl b')] H' by
          and_intros
          refine ite2 (fun hk=>ite2 (fun hx=>?_) fun hx=>fin _ (fun h=>absurd h.2 hx) fun _=>rfl) fun hk=>fin _ (fun h=>absurd h.1 hk) fun _=>rfl
          cases d with
          | forest ns =>
            have hlf:(spotsD (.forest ns)).length = ns.length:=List.length_map _
            obtain ⟨ts5,hl5,hn5⟩:=id hd4
            have lt5:=hn5.length
            refine ⟨l,ns,i,by rw [Int.zero_add],hd4,by omega,dO.2,rfl,ite2 (fun he=>?_) fun he=>?_⟩
            · obtain ⟨n1,en1,t1,ex1,ht1⟩:=hn5.get (List.getElem?_eq_getElem (by omega:i + 1 + j < ts5.length))
              have e1:atI ts5 ((i:Int) + 1 + (j:Int)) = some (.ref t1):=by
                rw [← ex1,show ((i:Int) + 1 + (j:Int)) = ((i + 1 + j:Nat):Int) by omega]
                exact atI_nat (List.getElem?_eq_getElem (by omega))
              obtain ⟨n0,en0,t0,ex0,ht0⟩:=hn5.get (List.getElem?_eq_getElem (by omega:i < ts5.length))
              have e0':atI ts5 (0 + (i:Int)) = some (.ref t0):=by
                rw [← ex0,Int.zero_add]
                exact atI_nat (List.getElem?_eq_getElem (by omega))
              refine ⟨_,SqL.of hl5,_,e1,t1,rfl,_,SqT.of ht1,_,rfl,_,SqL.of hl5,_,e0',t0,rfl,_,SqT.of ht0,_,rfl,rfl,fin _ (fun _=>?_) (fun h=>absurd ⟨hk,hx⟩ h)⟩
              rw [hx]
              unfold relK
              rw [if_neg (by decide +kernel)]
              show _ = if Str.ofString "beside" = Str.ofString "under" then _ else decide (i + 1 + j = i + tailN ns i + 1) && decide ((ns.getD (i + 1 + j) ("",0)).2 = (ns.getD i ("",0)).2)
              rw [if_neg (by decide +kernel),decide_eq_true (show i + 1 + j = i + tailN ns i + 1 by have:=V.int.inj he; omega),Bool.true_and,List.getD_eq_getElem?_getD,en1,List.getD_eq_getElem?_getD,en0]
              exact decide_eq_decide.mpr ⟨fun h=>V.int.inj h,fun h=>congrArg V.int h⟩
            · refine fin _ (fun _=>?_) (fun h=>absurd ⟨hk,hx⟩ h)
              rw [hx]
              unfold relK
              rw [if_neg (by decide +kernel)]
              show _ = if Str.ofString "beside" = Str.ofString "under" then _ else decide (i + 1 + j = i + tailN ns i + 1) && _
              rw [if_neg (by decide +kernel),decide_eq_false (show ¬ i + 1 + j = i + tailN ns i + 1 from fun h=>he (congrArg V.int (by omega))),Bool.false_and]
          | row xs=>exact absurd hk (show ¬ (0:Int) = 1 by decide)
          | table ls wd=>exact absurd hk (show ¬ (2:Int) = 1 by decide)
        intro b3 h3a h3b
        subst hB2
        refine tseq_open fun B2 hB2=>?_
        suffices fin:∀ b',((kindN d = 2 ∧ w = Str.ofString "under") → b' = relK d w i (i + 1 + j)) → (¬ (kindN d = 2 ∧ w = Str.ofString "under") → b' = b3) → B2 D0 [some (.int (kindN d)),some (.ref l),some (.str w),some (.ref p),some (.ref f),some (.int (0 + (i:Int))),some (.int ((i:Int) + 1 + (j:Int))),some (.bl b')] H' by
          and_intros
          refine ite2 (fun hk=>ite2 (fun hx=>?_) fun hx=>fin _ (fun h=>absurd h.2 hx) fun _=>rfl) fun hk=>fin _ (fun h=>absurd h.1 hk) fun _=>rfl
          cases d with
          | table ls wd =>
            obtain ⟨ys5,hl5,hr5,hwd⟩:=id hd4
            have hfl:(spotsD (.table ls wd)).length = ls.length * wd:=flat_le dO.2.2
            rw [hfl] at hl4
            have wd0:0 < wd:=by
              rcases Nat.eq_zero_or_pos wd with h | h
              · rw [h,Nat.mul_zero] at hl4
                exact absurd hl4 (Nat.not_lt_zero _)
              · exact h
            have ls0:0 < ls.length:=by
              rcases Nat.eq_zero_or_pos ls.length with h | h
              · rw [h,Nat.zero_mul] at hl4
                exact absurd hl4 (Nat.not_lt_zero _)
              · exact h
            have ly5:=hr5.length
            obtain ⟨r0,er0,t0,ex0,ht0⟩:=hr5.get (List.getElem?_eq_getElem (by omega:0 < ys5.length))
            have e0':atI ys5 0 = some (.ref t0):=by
              rw [← ex0]
              exact atI_nat (j:=0) (List.getElem?_eq_getElem (by omega))
            have lr:r0.length = wd:=(dO.2.2 r0 (List.mem_of_getElem? er0)).1
            refine ⟨_,SqL.of hl5,_,e0',t0,rfl,_,SqL.of ht0,by rw [lr]; omega,fin _ (fun _=>?_) (fun h=>absurd ⟨hk,hx⟩ h)⟩
            rw [hx,lr]
            unfold relK
            rw [if_neg (by decide +kernel)]
            show _ = if Str.ofString "under" = Str.ofString "under" then decide ((i + 1 + j - i) % wd = 0) else _
            rw [if_pos rfl,show ((i:Int) + 1 + (j:Int) - (0 + (i:Int))) = ((i + 1 + j - i:Nat):Int) by omega,← Int.natCast_emod]
            exact decide_eq_decide.mpr (by omega)
          | row xs=>exact absurd hk (show ¬ (0:Int) = 2 by decide)
          | forest ns=>exact absurd hk (show ¬ (1:Int) = 2 by decide)
        intro b4 h4a h4b
        subst hB2
        refine tseq_open fun B2 hB2=>?_
        suffices fin:∀ b',((kindN d = 2 ∧ w = Str.ofString "beside") → b' = relK d w i (i + 1 + j)) → (¬ (kindN d = 2 ∧ w = Str.ofString "beside") → b' = b4) → B2 D0 [some (.int (kindN d)),some (.ref l),some (.str w),some (.ref p),some (.ref f),some (.int (0 + (i:Int))),some (.int ((i:Int) + 1 + (j:Int))),some (.bl b')] H' by
          and_intros
          refine ite2 (fun hk=>ite2 (fun hx=>?_) fun hx=>fin _ (fun h=>absurd h.2 hx) fun _=>rfl) fun hk=>fin _ (fun h=>absurd h.1 hk) fun _=>rfl
          cases d with
          | table ls wd =>
            obtain ⟨ys5,hl5,hr5,hwd⟩:=id hd4
            have hfl:(spotsD (.table ls wd)).length = ls.length * wd:=flat_le dO.2.2
            rw [hfl] at hl4
            have wd0:0 < wd:=by
              rcases Nat.eq_zero_or_pos wd with h | h
              · rw [h,Nat.mul_zero] at hl4
                exact absurd hl4 (Nat.not_lt_zero _)
              · exact h
            have ls0:0 < ls.length:=by
              rcases Nat.eq_zero_or_pos ls.length with h | h
              · rw [h,Nat.zero_mul] at hl4
                exact absurd hl4 (Nat.not_lt_zero _)
              · exact h
            have ly5:=hr5.length
            obtain ⟨r0,er0,t0,ex0,ht0⟩:=hr5.get (List.getElem?_eq_getElem (by omega:0 < ys5.length))
            have e0':atI ys5 0 = some (.ref t0):=by
              rw [← ex0]
              exact atI_nat (j:=0) (List.getElem?_eq_getElem (by omega))
            have lr:r0.length = wd:=(dO.2.2 r0 (List.mem_of_getElem? er0)).1
            refine ite2 (fun he=>⟨_,SqL.of hl5,_,e0',t0,rfl,_,SqL.of ht0,by rw [lr]; omega,fin _ (fun _=>?_) (fun h=>absurd ⟨hk,hx⟩ h)⟩) fun he=>fin _ (fun _=>?_) (fun h=>absurd ⟨hk,hx⟩ h)
            · rw [hx,lr]
              unfold relK
              rw [if_neg (by decide +kernel)]
              show _ = if Str.ofString "beside" = Str.ofString "under" then _ else decide (i + 1 + j = i + 1) && decide (0 < (i + 1 + j) % wd)
              rw [if_neg (by decide +kernel),decide_eq_true (show i + 1 + j = i + 1 by omega),Bool.true_and,show ((i:Int) + 1 + (j:Int)) = ((i + 1 + j:Nat):Int) by omega,← Int.natCast_emod]
              exact decide_eq_decide.mpr (by omega)
            · rw [hx]
              unfold relK
              rw [if_neg (by decide +kernel)]
              show _ = if Str.ofString "beside" = Str.ofString "under" then _ else decide (i + 1 + j = i + 1) && _
              rw [if_neg (by decide +kernel),decide_eq_false (show ¬ i + 1 + j = i + 1 by omega),Bool.false_and]
          | row xs=>exact absurd hk (show ¬ (0:Int) = 2 by decide)
          | forest ns=>exact absurd hk (show ¬ (1:Int) = 2 by decide)
        intro b5 h5a h5b
        have eb:b5 = relK d w i (i + 1 + j):=by
          subst e0
          cases d with
          | row xs =>
            rcases hw with rfl | rfl | rfl
            · rw [h5b (fun h=>absurd h.1 (show ¬ (0:Int) = 2 by decide))]
              rw [h4b (fun h=>absurd h.1 (show ¬ (0:Int) = 2 by decide))]
              rw [h3b (fun h=>absurd h.1 (show ¬ (0:Int) = 1 by decide))]
              rw [h2b (fun h=>absurd h.1 (show ¬ (0:Int) = 1 by decide))]
              rw [h1b (fun h=>absurd h.2 (by decide +kernel))]
              rw [decide_eq_true rfl]
              unfold relK
              rw [if_pos rfl]
            · rw [h5b (fun h=>absurd h.1 (show ¬ (0:Int) = 2 by decide))]
              rw [h4b (fun h=>absurd h.1 (show ¬ (0:Int) = 2 by decide))]
              rw [h3b (fun h=>absurd h.1 (show ¬ (0:Int) = 1 by decide))]
              rw [h2b (fun h=>absurd h.1 (show ¬ (0:Int) = 1 by decide))]
              rw [h1b (fun h=>absurd h.2 (by decide +kernel))]
              rw [decide_eq_false (by decide +kernel)]
              unfold relK
              rw [if_neg (by decide +kernel)]
              show false = (decide (Str.ofString "under" = Str.ofString "beside") && _)
              rw [decide_eq_false (by decide +kernel),Bool.false_and]
            · rw [h5b (fun h=>absurd h.1 (show ¬ (0:Int) = 2 by decide))]
              rw [h4b (fun h=>absurd h.1 (show ¬ (0:Int) = 2 by decide))]
              rw [h3b (fun h=>absurd h.1 (show ¬ (0:Int) = 1 by decide))]
              rw [h2b (fun h=>absurd h.1 (show ¬ (0:Int) = 1 by decide))]
              exact h1a ⟨rfl,rfl⟩
          | forest ns =>
            rcases hw with rfl | rfl | rfl
            · rw [h5b (fun h=>absurd h.1 (show ¬ (1:Int) = 2 by decide))]
              rw [h4b (fun h=>absurd h.1 (show ¬ (1:Int) = 2 by decide))]
              rw [h3b (fun h=>absurd h.2 (by decide +kernel))]
              rw [h2b (fun h=>absurd h.2 (by decide +kernel))]
              rw [h1b (fun h=>absurd h.1 (show ¬ (1:Int) = 0 by decide))]
              rw [decide_eq_true rfl]
              unfold relK
              rw [if_pos rfl]
            · rw [h5b (fun h=>absurd h.1 (show ¬ (1:Int) = 2 by decide))]
              rw [h4b (fun h=>absurd h.1 (show ¬ (1:Int) = 2 by decide))]
              rw [h3b (fun h=>absurd h.2 (by decide +kernel))]
              exact h2a ⟨rfl,rfl⟩
            · rw [h5b (fun h=>absurd h.1 (show ¬ (1:Int) = 2 by decide))]
              rw [h4b (fun h=>absurd h.1 (show ¬ (1:Int) = 2 by decide))]
              exact h3a ⟨rfl,rfl⟩
          | table ls wd =>
            rcases hw with rfl | rfl | rfl
            · rw [h5b (fun h=>absurd h.2 (by decide +kernel))]
              rw [h4b (fun h=>absurd h.2 (by decide +kernel))]
              rw [h3b (fun h=>absurd h.1 (show ¬ (2:Int) = 1 by decide))]
              rw [h2b (fun h=>absurd h.1 (show ¬ (2:Int) = 1 by decide))]
              rw [h1b (fun h=>absurd h.1 (show ¬ (2:Int) = 0 by decide))]
              rw [decide_eq_true rfl]
              unfold relK
              rw [if_pos rfl]
            · rw [h5b (fun h=>absurd h.2 (by decide +kernel))]
              exact h4a ⟨rfl,rfl⟩
            · exact h5a ⟨rfl,rfl⟩
        rw [eb]
        subst hB2
        and_intros
        have lo:=pairsO_len d w (preN (spotsD d).length i ++ (List.range j).map fun j=>(i,i + 1 + j))
        have lpre:=pre_le (spotsD d).length i
        have lp2:i * (spotsD d).length ≤ 144 * 144:=Nat.mul_le_mul (by omega) hN
        rw [List.length_append,List.length_map,List.length_range] at lo
        have ly:=hr4.length
        have gx:∀ {t:Nat},t < (spotsD d).length → (spotsD d)[t]? = some ((spotsD d).getD t .non):=fun h=>by
          rw [List.getD_eq_getElem?_getD,List.getElem?_eq_getElem h]
          rfl
        have nxI:∀ H5 ys5 b,Same H1 H5 → H5 f = some (.lst ys5) → RowsAt .tup H5 ys5 (pairsO d w (preN (spotsD d).length i ++ (List.range j).map fun j=>(i,i + 1 + j)) ++ (if relK d w i (i + 1 + j) = true then [[(spotsD d).getD i .non,(spotsD d).getD (i + 1 + j) .non]] else [])) → D0.nx [some (.int (kindN d)),some (.ref l),some (.str w),some (.ref p),some (.ref f),some (.int (0 + (i:Int))),some (.int ((i:Int) + 1 + (j:Int))),some (.bl b)] H5:=fun H5 ys5 b s5 h5 r5=>by
          rw [hD0]
          refine ⟨s5,⟨ys5,h5,?_⟩,_,_,StIs.rfl⟩
          rw [List.range_succ,List.map_append,← List.append_assoc]
          show RowsAt .tup H5 ys5 (pairsO d w (_ ++ [(i,i + 1 + j)]))
          rw [pairsO_snoc]
          exact r5
        refine ite2 (fun hb=>?_) fun hb=>nxI _ ys _ s4 hf4 (by rw [if_neg hb,List.append_nil]; exact hr4)
        refine ⟨.inl ⟨rfl,_,SqL.of hf4⟩,_,SqL.of (s4 _ _ h1),_,(by rw [Int.zero_add]; exact atI_nat (gx hi)),_,SqL.of (s4 _ _ h1),_,(by rw [show ((i:Int) + 1 + (j:Int)) = ((i + 1 + j:Nat):Int) by omega]; exact atI_nat (gx hl4)),by decide,fun q hq=>?_⟩
        have sq:=Same.put (o:=.tup [(spotsD d).getD i .non,(spotsD d).getD (i + 1 + j) .non]) hq
        have fq:(upd H' q (.tup [(spotsD d).getD i .non,(spotsD d).getD (i + 1 + j) .non])) q = some (.tup [(spotsD d).getD i .non,(spotsD d).getD (i + 1 + j) .non]):=upd_same
        generalize (upd H' q (.tup [(spotsD d).getD i .non,(spotsD d).getD (i + 1 + j) .non])) = H5 at sq fq ⊢
        refine ⟨ys,sq _ _ hf4,Nat.lt_of_le_of_lt (by omega:ys.length ≤ 30000) (by decide),nxI _ _ _ (same_ne (s4.trans sq) hf) upd_same ?_⟩
        rw [if_pos hb]
        exact ((hr4.same sq).append (ys:=[.ref q]) (ms:=[[(spotsD d).getD i .non,(spotsD d).getD (i + 1 + j) .non]]) ⟨⟨q,rfl,fq⟩,trivial⟩).keep (lst_tups (sq _ _ hf4))
      · rintro σ H' ⟨s4,hD',p6,p7,rfl⟩
        and_intros
        rw [← pre_snoc] at hD'
        exact ⟨s4,hD',_,_,_,StIs.rfl⟩
    rintro σ H' ⟨s3,⟨ys,hf4,hr4⟩,p5,p6,p7,rfl⟩
    dsimp only
    subst hB
    and_intros
    exact k f ys H' (s1.trans s3) hf4 hr4
theorem ok__law_holds {f:Addr} {fd:FuncData} {n:Nat} (D:Def K mg "_law_holds" s__law_holds ["_law_kind","_law_data_here","_law_term_here"] f fd) (T:Txt K mg ad) {f__law_spots:Addr} {fd__law_spots:FuncData} (G__law_spots:FnOk P w K mg base CX0 1 f__law_spots fd__law_spots ["_law_kind","_law_data_here"] sp__law_spots) {f__law_holds:Addr} {fd__law_holds:FuncData} (G__law_holds:FnOk P w K mg base CX0 (n + 3) f__law_holds fd__law_holds ["_law_kind","_law_data_here","_law_term_here"] (sp__law_holds n)) {f__law_pairs:Addr} {fd__law_pairs:FuncData} (G__law_pairs:FnOk P w K mg base CX0 2 f__law_pairs fd__law_pairs ["_law_kind","_law_data_here","_law_word"] sp__law_pairs) (D__law_spots:Def K mg "_law_spots" s__law_spots ["_law_kind","_law_data_here"] f__law_spots fd__law_spots) (D__law_holds:Def K mg "_law_holds" s__law_holds ["_law_kind","_law_data_here","_law_term_here"] f__law_holds fd__law_holds) (D__law_pairs:Def K mg "_law_pairs" s__law_pairs ["_law_kind","_law_data_here","_law_word"] f__law_pairs fd__law_pairs):FnOk P w K mg base CX0 (n + 1 + 3) f fd ["_law_kind","_law_data_here","_law_term_here"] (sp__law_holds (n + 1)):=by
  refine D.F.ok sc__law_holds (fun vs H Q E h=>?_) (fun cdv A outer s H vs Q E hr h=>?_)
  · obtain ⟨l,d,v,tm,rfl,_⟩:=h
    rfl
  · obtain ⟨l,d,v,tm,rfl,hd,dO,ht,ok,dp,k⟩:=h
    have fl:=flat_marks2 (spots_marks dO)
    refine ⟨_,(@pss_cons _ _ _ _ _ (ps_if (pt_cmpR op_eq (pe_ix ix_tup (pv 2) pe_int (fun _ _=>rfl)) pe_str (nomark _))
      (@pss_one _ _ _ (ps_ret (pe_cmpR op_in_seq (pe_ix ix_tup (pv 2) pe_int (fun _ _=>rfl)) (pe_call G__law_spots (hr.mono (by omega)) rfl D__law_spots.mg D__law_spots.F.kp D__law_spots.b .nil pass0 (pa_cons (pv 0) (pa_cons (pv 1) pa_nil))) rfl)))
      pss_nil)
      (@pss_cons _ _ _ _ _ (ps_if (pt_cmpR op_eq (pe_ix ix_tup (pv 2) pe_int (fun _ _=>rfl)) pe_str (nomark _))
      (@pss_one _ _ _ (ps_ret (pe_cmpR op_ge (pe_bm PySem.F.plainAttrs_list PySem.F.slot_list_count PySem.F.type_list_count mt_count (pe_call G__law_spots (hr.mono (by omega)) rfl D__law_spots.mg D__law_spots.F.kp D__law_spots.b .nil pass0 (pa_cons (pv 0) (pa_cons (pv 1) pa_nil))) (pa_cons (pe_ix ix_tup (pv 2) pe_int (fun _ _=>rfl)) pa_nil)) (pe_ix ix_tup (pv 2) pe_int (fun _ _=>rfl)) (nomark _))))
      pss_nil)
      (@pss_cons _ _ _ _ _ (ps_if (pt_cmpR op_eq (pe_ix ix_tup (pv 2) pe_int (fun _ _=>rfl)) pe_str (nomark _))
      (@pss_one _ _ _ (ps_ret (pe_callB (call_all rfl) rfl T.all (by decide +kernel) (pa_cons (pe_comp (own:=["_law_part"]) (cap:=["_law_kind","_law_data_here"]) (ix:=[0,1]) rfl (show CompScope ["_law_kind","_law_data_here","_law_term_here"] (defScope s__law_holds) _ ["_law_part"] ["_law_kind","_law_data_here"] [0,1] from ⟨rfl,by decide +kernel,by decide +kernel,by decide +kernel,by decide +kernel,by decide +kernel,by decide +kernel,rfl,by decide +kernel⟩) (pi_tup (pe_slice sl_tupA (pv 2) (po_some pe_int) po_none)) (fun C s₀ H₀ ex pn=>⟨pg_name (i:=0) (show (["_law_part","_law_kind","_law_data_here"]:List Str).Nodup by decide +kernel) rfl (Or.inl rfl),pifs_nil,(pe_call G__law_holds (hr.mono (by omega)) rfl D__law_holds.mg D__law_holds.F.kp D__law_holds.b .nil pass0 (pa_cons (pv 1) (pa_cons (pv 2) (pa_cons (pv 0) pa_nil))))⟩)) pa_nil))))
      pss_nil)
      (@pss_cons _ _ _ _ _ (ps_if (pt_cmpR op_eq (pe_ix ix_tup (pv 2) pe_int (fun _ _=>rfl)) pe_str (nomark _))
      (@pss_one _ _ _ (ps_ret (pe_callB (call_any rfl) rfl T.any (by decide +kernel) (pa_cons (pe_comp (own:=["_law_part"]) (cap:=["_law_kind","_law_data_here"]) (ix:=[0,1]) rfl (show CompScope ["_law_kind","_law_data_here","_law_term_here"] (defScope s__law_holds) _ ["_law_part"] ["_law_kind","_law_data_here"] [0,1] from ⟨rfl,by decide +kernel,by decide +kernel,by decide +kernel,by decide +kernel,by decide +kernel,by decide +kernel,rfl,by decide +kernel⟩) (pi_tup (pe_slice sl_tupA (pv 2) (po_some pe_int) po_none)) (fun C s₀ H₀ ex pn=>⟨pg_name (i:=0) (show (["_law_part","_law_kind","_law_data_here"]:List Str).Nodup by decide +kernel) rfl (Or.inl rfl),pifs_nil,(pe_call G__law_holds (hr.mono (by omega)) rfl D__law_holds.mg D__law_holds.F.kp D__law_holds.b .nil pass0 (pa_cons (pv 1) (pa_cons (pv 2) (pa_cons (pv 0) pa_nil))))⟩)) pa_nil))))
      pss_nil)
      (@pss_cons _ _ _ _ _ (ps_if (pt_cmpR op_eq (pe_ix ix_tup (pv 2) pe_int (fun _ _=>rfl)) pe_str (nomark _))
      (@pss_one _ _ _ (ps_ret (pe_not (pe_call G__law_holds (hr.mono (by omega)) rfl D__law_holds.mg D__law_holds.F.kp D__law_holds.b .nil pass0 (pa_cons (pv 0) (pa_cons (pv 1) (pa_cons (pe_ix ix_tup (pv 2) pe_int (fun _ _=>rfl)) pa_nil)))))))
      pss_nil)
      (@pss_one _ _ _ (ps_ret (pe_cmpR (op_inD (hu66 hr)) (pe_tup (pa_cons (pe_ix ix_tup (pv 2) pe_int (fun _ _=>rfl)) (pa_cons (pe_ix ix_tup (pv 2) pe_int (fun _ _=>rfl)) pa_nil))) (pe_call G__law_pairs (hr.mono (by omega)) rfl D__law_pairs.mg D__law_pairs.F.kp D__law_pairs.b .nil pass0 (pa_cons (pv 0) (pa_cons (pv 1) (pa_cons (pe_ix ix_tup (pv 2) pe_int (fun _ _=>rfl)) pa_nil)))) rfl)))))))),?_⟩
    cases tm with
    | has m =>
      unfold TmAt at ht
      obtain ⟨a,rfl,ha⟩:=ht
      and_intros
      refine ⟨_,SqT.of ha,_,rfl,rfl,?_⟩
      rw [if_pos rfl]
      refine ⟨_,SqT.of ha,_,rfl,l,d,rfl,hd,dO,fun p H1 s1 h1=>⟨p,_,rfl,.inl (SqL.of h1),rfl,fl,?_⟩⟩
      have:=k H1 s1
      unfold holdsT countD at this
      rw [← has_count] at this
      exact this
    | many i m =>
      unfold TmAt at ht
      obtain ⟨a,rfl,ha⟩:=ht
      and_intros
      refine ⟨_,SqT.of ha,_,rfl,rfl,?_⟩
      rw [if_neg (by decide +kernel)]
      refine ⟨_,SqT.of ha,_,rfl,rfl,?_⟩
      rw [if_pos rfl]
      refine ⟨l,d,rfl,hd,dO,fun p H1 s1 h1=>⟨.inl ⟨rfl,_,SqL.of h1⟩,_,SqT.of (s1 _ _ ha),_,rfl,?_⟩⟩
      have:=k H1 s1
      unfold holdsT at this
      exact ⟨p,rfl,_,SqL.of h1,rfl,fl,_,SqT.of (s1 _ _ ha),_,rfl,_,rfl,this⟩
    | pair w x y =>
      unfold TmAt at ht
      obtain ⟨a,rfl,ha⟩:=ht
      unfold okT at ok
      have k2:∀ H',Same H H' → Q (.bl (relD d w x y)) H':=fun H' s'=>by have:=k H' s'; unfold holdsT at this; exact this
      have n1:¬ V.str w = V.str (Str.ofString "has"):=fun h=>by have h:=V.str.inj h; rcases ok.1 with rfl | rfl | rfl <;> exact absurd h (by decide +kernel)
      have n2:¬ V.str w = V.str (Str.ofString "many"):=fun h=>by have h:=V.str.inj h; rcases ok.1 with rfl | rfl | rfl <;> exact absurd h (by decide +kernel)
      have n3:¬ V.str w = V.str (Str.ofString "all"):=fun h=>by have h:=V.str.inj h; rcases ok.1 with rfl | rfl | rfl <;> exact absurd h (by decide +kernel)
      have n4:¬ V.str w = V.str (Str.ofString "any"):=fun h=>by have h:=V.str.inj h; rcases ok.1 with rfl | rfl | rfl <;> exact absurd h (by decide +kernel)
      have n5:¬ V.str w = V.str (Str.ofString "not"):=fun h=>by have h:=V.str.inj h; rcases ok.1 with rfl | rfl | rfl <;> exact absurd h (by decide +kernel)
      and_intros
      refine ⟨_,SqT.of ha,_,rfl,rfl,?_⟩
      rw [if_neg n1]
      refine ⟨_,SqT.of ha,_,rfl,rfl,?_⟩
      rw [if_neg n2]
      refine ⟨_,SqT.of ha,_,rfl,rfl,?_⟩
      rw [if_neg n3]
      refine ⟨_,SqT.of ha,_,rfl,rfl,?_⟩
      rw [if_neg n4]
      refine ⟨_,SqT.of ha,_,rfl,rfl,?_⟩
      rw [if_neg n5]
      refine ⟨_,SqT.of ha,_,rfl,_,SqT.of ha,_,rfl,by decide,fun p hp=>?_⟩
      have s1:=Same.put (o:=.tup [.str x,.str y]) hp
      have f1:(upd H p (.tup [.str x,.str y])) p = some (.tup [.str x,.str y]):=upd_same
      generalize (upd H p (.tup [.str x,.str y])) = H1 at s1 f1 ⊢
      refine ⟨_,SqT.of (s1 _ _ ha),_,rfl,l,d,w,rfl,hd.same s1,dO,ok.1,fun q ys H2 s2 hq hys=>?_⟩
      have:=k2 H2 (s1.trans s2)
      rw [← pair_any dO x y ok.1] at this
      exact ⟨q,rfl,_,SqL.of hq,_,.tup (SqT.of (s2 _ _ f1)) (.cons (.str _) (.cons (.str _) .nil)),_,hys.datT (pair_marks dO w),shaped_pairP ok.2.1 ok.2.2,shaped_pairs dO w,this⟩
    | not p =>
      unfold TmAt at ht
      obtain ⟨a,x,rfl,ha,hx⟩:=ht
      unfold okT at ok
      unfold dpT at dp
      and_intros
      refine ⟨_,SqT.of ha,_,rfl,rfl,?_⟩
      rw [if_neg (by decide +kernel)]
      refine ⟨_,SqT.of ha,_,rfl,rfl,?_⟩
      rw [if_neg (by decide +kernel)]
      refine ⟨_,SqT.of ha,_,rfl,rfl,?_⟩
      rw [if_neg (by decide +kernel)]
      refine ⟨_,SqT.of ha,_,rfl,rfl,?_⟩
      rw [if_neg (by decide +kernel)]
      refine ⟨_,SqT.of ha,_,rfl,rfl,?_⟩
      rw [if_pos rfl]
      refine ⟨_,SqT.of ha,_,rfl,l,d,x,p,rfl,hd,dO,hx,ok,by omega,fun H1 s1=>⟨_,rfl,?_⟩⟩
      have:=k H1 s1
      unfold holdsT at this
      exact this
    | joint b ps =>
      unfold TmAt at ht
      obtain ⟨a,xs,rfl,ha,hts⟩:=ht
      unfold okT at ok
      unfold dpT at dp
      cases b with
      | true =>
        have ha:H a = some (.tup (.str "all" :: xs)):=ha
        and_intros
        refine ⟨_,SqT.of ha,_,(show atI _ ((0:Nat):Int) = _ from atI_nat rfl),rfl,?_⟩
        rw [if_neg (by decide +kernel)]
        refine ⟨_,SqT.of ha,_,(show atI _ ((0:Nat):Int) = _ from atI_nat rfl),rfl,?_⟩
        rw [if_neg (by decide +kernel)]
        refine ⟨_,SqT.of ha,_,(show atI _ ((0:Nat):Int) = _ from atI_nat rfl),rfl,?_⟩
        rw [if_pos rfl]
        refine tcomp_tupW (K:=K) (fun p1 H1=>Same H H1 ∧ H1 p1 = some (.tup xs)) (fun R r=>?_) (fun p1 H1 ⟨s1,h1⟩=>?_)
        · and_intros
          refine ⟨_,SqT.of ha,fun h=>absurd h no_whole,fun _ p hp=>?_⟩
          rw [cut1]
          exact ⟨⟨_,SqT.of upd_same⟩,r _ _ ⟨Same.put hp,upd_same⟩⟩
        refine tcomp_tup (K:=K) (a:=p1) (xs:=xs) (H1:=H1) (fun R r=>r) (fun i ys H'=>Same H H' ∧ H' p1 = some (.tup xs) ∧ ys = ((ps.take i).map (holdsT d)).map V.bl) ⟨s1,h1,rfl⟩ (fun i ys H' _ ⟨_,h,_⟩=>SqT.of h) ?_ ?_
        · rintro i x ys H' R hx ⟨s2,h2,rfl⟩ hR
          simp only [tYes]
          and_intros
          obtain ⟨pm,hpm,hx'⟩:=hts.get hx
          have hmem:=List.mem_of_getElem? hpm
          have:=dpL_mem hmem
          refine ⟨l,d,x,pm,rfl,hd.same s2,dO,hx'.same s2,okL_mem ok.2 hmem,by omega,fun H3 s3=>⟨small1000 (by rw [List.length_map,List.length_map,List.length_take]; omega),hR _ _ ⟨s2.trans s3,s3 _ _ h2,?_⟩⟩⟩
          rw [List.take_add_one,hpm,List.map_append,List.map_append]
          rfl
        · rintro ys H' ⟨s2,h2,rfl⟩
          rw [hts.length,List.take_length]
          refine ⟨Nat.le_of_lt (small1000 (by rw [List.length_map,List.length_map]; omega)),fun L hL=>⟨L,rfl,_,SqL.of upd_same,?_⟩⟩
          have:=k _ (s2.upd (o:=.lst ((ps.map (holdsT d)).map V.bl)) hL)
          unfold holdsT at this
          rw [holdsA_all] at this
          rw [List.all_map]
          exact this
      | false =>
        have ha:H a = some (.tup (.str "any" :: xs)):=ha
        and_intros
        refine ⟨_,SqT.of ha,_,(show atI _ ((0:Nat):Int) = _ from atI_nat rfl),rfl,?_⟩
        rw [if_neg (by decide +kernel)]
        refine ⟨_,SqT.of ha,_,(show atI _ ((0:Nat):Int) = _ from atI_nat rfl),rfl,?_⟩
        rw [if_neg (by decide +kernel)]
        refine ⟨_,SqT.of ha,_,(show atI _ ((0:Nat):Int) = _ from atI_nat rfl),rfl,?_⟩
        rw [if_neg (by decide +kernel)]
        refine ⟨_,SqT.of ha,_,(show atI _ ((0:Nat):Int) = _ from atI_nat rfl),rfl,?_⟩
        rw [if_pos rfl]
        refine tcomp_tupW (K:=K) (fun p1 H1=>Same H H1 ∧ H1 p1 = some (.tup xs)) (fun R r=>?_) (fun p1 H1 ⟨s1,h1⟩=>?_)
        · and_intros
          refine ⟨_,SqT.of ha,fun h=>absurd h no_whole,fun _ p hp=>?_⟩
          rw [cut1]
          exact ⟨⟨_,SqT.of upd_same⟩,r _ _ ⟨Same.put hp,upd_same⟩⟩
        refine tcomp_tup (K:=K) (a:=p1) (xs:=xs) (H1:=H1) (fun R r=>r) (fun i ys H'=>Same H H' ∧ H' p1 = some (.tup xs) ∧ ys = ((ps.take i).map (holdsT d)).map V.bl) ⟨s1,h1,rfl⟩ (fun i ys H' _ ⟨_,h,_⟩=>SqT.of h) ?_ ?_
        · rintro i x ys H' R hx ⟨s2,h2,rfl⟩ hR
          simp only [tYes]
          and_intros
          obtain ⟨pm,hpm,hx'⟩:=hts.get hx
          have hmem:=List.mem_of_getElem? hpm
          have:=dpL_mem hmem
          refine ⟨l,d,x,pm,rfl,hd.same s2,dO,hx'.same s2,okL_mem ok.2 hmem,by omega,fun H3 s3=>⟨small1000 (by rw [List.length_map,List.length_map,List.length_take]; omega),hR _ _ ⟨s2.trans s3,s3 _ _ h2,?_⟩⟩⟩
          rw [List.take_add_one,hpm,List.map_append,List.map_append]
          rfl
        · rintro ys H' ⟨s2,h2,rfl⟩
          rw [hts.length,List.take_length]
          refine ⟨Nat.le_of_lt (small1000 (by rw [List.length_map,List.length_map]; omega)),fun L hL=>⟨L,rfl,_,SqL.of upd_same,?_⟩⟩
          have:=k _ (s2.upd (o:=.lst ((ps.map (holdsT d)).map V.bl)) hL)
          unfold holdsT at this
          rw [holdsE_any] at this
          rw [List.any_map]
          exact this
theorem ok__law_leaf {f:Addr} {fd:FuncData} (D:Def K mg "_law_leaf" s__law_leaf ["_law_cell","_law_names_here"] f fd) (T:Txt K mg ad):FnOk P w K mg base CX0 1 f fd ["_law_cell","_law_names_here"] sp__law_leaf:=by
  refine D.F.ok sc__law_leaf (fun vs H Q E h=>?_) (fun cdv A outer s H vs Q E hr h=>?_)
  · obtain ⟨c,nl,zs,rfl,_⟩:=h
    rfl
  · obtain ⟨c,nl,zs,rfl,hnl,z1,z20,hz,k⟩:=h
    refine ⟨_,(@pss_cons _ _ _ _ _ (ps_set (i:=2) sc__law_leaf.nd rfl (Or.inl rfl) (pe_ix ix_list (pv 1) (pe_op op_mod (pe_op op_fdiv (pv 0) pe_int) (pe_callB call_lenL rfl T.len PySem.boot_len (pa_cons (pv 1) pa_nil))) (fun _ _=>rfl)))
      (@pss_cons _ _ _ _ _ (ps_set (i:=3) sc__law_leaf.nd rfl (Or.inl rfl) (pe_ix ix_list (pv 1) (pe_op op_mod (pe_op op_fdiv (pv 0) (pe_op op_mul pe_int (pe_callB call_lenL rfl T.len PySem.boot_len (pa_cons (pv 1) pa_nil)))) (pe_callB call_lenL rfl T.len PySem.boot_len (pa_cons (pv 1) pa_nil))) (fun _ _=>rfl)))
      (@pss_cons _ _ _ _ _ (ps_set (i:=4) sc__law_leaf.nd rfl (Or.inl rfl) (pe_ix ix_list (pe_lst (pa_cons pe_str (pa_cons pe_str (pa_cons pe_str (pa_cons pe_str (pa_cons pe_str (pa_cons pe_str (pa_cons pe_str (pa_cons pe_str pa_nil))))))))) (pe_op op_mod (pv 0) pe_int) (fun _ _=>rfl)))
      (@pss_cons _ _ _ _ _ (ps_if (pt_cmpR op_eq (pv 4) pe_str (nomark _))
      (@pss_one _ _ _ (ps_ret (pe_tup (pa_cons pe_str (pa_cons (pv 2) pa_nil)))))
      pss_nil)
      (@pss_cons _ _ _ _ _ (ps_if (pt_cmpR op_eq (pv 4) pe_str (nomark _))
      (@pss_one _ _ _ (ps_ret (pe_tup (pa_cons pe_str (pa_cons (pe_op op_add pe_int (pe_op op_mod (pe_op op_fdiv (pv 0) (pe_op op_mul pe_int (pe_callB call_lenL rfl T.len PySem.boot_len (pa_cons (pv 1) pa_nil)))) pe_int)) (pa_cons (pv 2) pa_nil))))))
      pss_nil)
      (@pss_one _ _ _ (ps_ret (pe_tup (pa_cons (pv 4) (pa_cons (pv 2) (pa_cons (pv 3) pa_nil))))))))))),?_⟩
    have pick:∀ i:Int,∃ z,markS z = true ∧ atI (zs.map V.str) (i % (zs.length:Int)) = some (.str z):=fun i=>by
      obtain ⟨v,hv,_,e⟩:=atI_mod (xs:=zs.map V.str) (i:=i) (m:=(zs.length:Int)) (by omega) (by rw [List.length_map]; exact Int.le_refl _)
      obtain ⟨z,hz',rfl⟩:=List.mem_map.mp hv
      exact ⟨z,hz z hz',e⟩
    have lz:(((zs.map V.str).length:Nat):Int) = (zs.length:Int):=by rw [List.length_map]
    refine tseq_open fun B hB=>?_
    and_intros
    obtain ⟨z1',hm1,e1⟩:=pick (c / 8)
    refine ⟨_,SqL.of hnl,by rw [lz]; omega,_,SqL.of hnl,_,by rw [lz]; exact e1,?_⟩
    subst hB
    refine tseq_open fun B hB=>?_
    and_intros
    obtain ⟨z2',hm2,e2⟩:=pick (c / (8 * (zs.length:Int)))
    refine ⟨_,SqL.of hnl,.inl ⟨by decide,by decide⟩,by rw [lz]; omega,by rw [lz]; omega,_,SqL.of hnl,by rw [lz]; omega,_,SqL.of hnl,_,by rw [lz]; exact e2,?_⟩
    subst hB
    refine tseq_open fun B hB=>?_
    and_intros
    refine ⟨by decide,fun p hp=>?_⟩
    obtain ⟨v,hv,_,e⟩:=atI_mod (xs:=([.str "has",.str "many",.str "before",.str "under",.str "beside",.str "has",.str "before",.str "under"]:List V)) (i:=c) (m:=8) (by decide) (by decide)
    refine ⟨_,SqL.of upd_same,v,e,?_⟩
    have hv':v = .str "has" ∨ v = .str "many" ∨ ∃ w,v = .str w ∧ pairW w:=by
      simp only [List.mem_cons,List.not_mem_nil,or_false] at hv
      rcases hv with rfl | rfl | rfl | rfl | rfl | rfl | rfl | rfl
      · exact .inl rfl
      · exact .inr (.inl rfl)
      · exact .inr (.inr ⟨_,rfl,.inl rfl⟩)
      · exact .inr (.inr ⟨_,rfl,.inr (.inl rfl)⟩)
      · exact .inr (.inr ⟨_,rfl,.inr (.inr rfl)⟩)
      · exact .inl rfl
      · exact .inr (.inr ⟨_,rfl,.inl rfl⟩)
      · exact .inr (.inr ⟨_,rfl,.inr (.inl rfl)⟩)
    clear hv e
    have s1:=Same.put (o:=.lst [.str "has",.str "many",.str "before",.str "under",.str "beside",.str "has",.str "before",.str "under"]) hp
    generalize (upd H p (.lst [.str "has",.str "many",.str "before",.str "under",.str "beside",.str "has",.str "before",.str "under"])) = H1 at s1 ⊢
    have hnl1:=s1 _ _ hnl
    subst hB
    rcases hv' with rfl | rfl | ⟨w,rfl,hw⟩
    · and_intros
      refine ⟨by decide,fun q hq=>k (.ref q) (.has z1') _ (s1.upd hq) (by unfold TmAt; exact ⟨q,rfl,upd_same⟩) (by unfold okT; exact hm1) (by unfold dpT; rfl)⟩
    · and_intros
      rw [if_neg (by decide +kernel)]
      exact ⟨_,SqL.of hnl1,.inl ⟨by decide,by decide⟩,by rw [lz]; omega,by rw [lz]; omega,by decide,fun p hp=>k (.ref p) (.many _ z1') _ (s1.upd hp) (by unfold TmAt; exact ⟨p,rfl,upd_same⟩) (by unfold okT; exact hm1) (by unfold dpT; rfl)⟩
    · have n1:¬ w = "has":=by rcases hw with rfl | rfl | rfl <;> decide +kernel
      have n2:¬ w = "many":=by rcases hw with rfl | rfl | rfl <;> decide +kernel
      and_intros
      rw [if_neg n1,if_neg n2]
      exact ⟨by decide,fun q hq=>k (.ref q) (.pair w z1' z2') _ (s1.upd hq) (by unfold TmAt; exact ⟨q,rfl,upd_same⟩) (by unfold okT; exact ⟨hw,hm1,hm2⟩) (by unfold dpT; rfl)⟩
theorem ok__law_term {f:Addr} {fd:FuncData} (D:Def K mg "_law_term" s__law_term ["_law_script","_law_begin","_law_many","_law_names_here"] f fd) (T:Txt K mg ad) {f__law_leaf:Addr} {fd__law_leaf:FuncData} (G__law_leaf:FnOk P w K mg base CX0 1 f__law_leaf fd__law_leaf ["_law_cell","_law_names_here"] sp__law_leaf) {f__law_cell_at:Addr} {fd__law_cell_at:FuncData} (G__law_cell_at:FnOk P w K mg base CX0 1 f__law_cell_at fd__law_cell_at ["_law_script","_law_k"] (sp__law_cell_at K)) (D__law_leaf:Def K mg "_law_leaf" s__law_leaf ["_law_cell","_law_names_here"] f__law_leaf fd__law_leaf) (D__law_cell_at:Def K mg "_law_cell_at" s__law_cell_at ["_law_script","_law_k"] f__law_cell_at fd__law_cell_at):FnOk P w K mg base CX0 2 f fd ["_law_script","_law_begin","_law_many","_law_names_here"] (sp__law_term K):=by
  refine D.F.ok sc__law_term (fun vs H Q E h=>?_) (fun cdv A outer s H vs Q E hr h=>?_)
  · obtain ⟨a,nl,ns,b,m,zs,rfl,_⟩:=h
    rfl
  · obtain ⟨a,nl,ns,b,m,zs,rfl,hS,m1,m7,hnl,z1,z20,hz,k⟩:=h
    refine ⟨_,(@pss_cons _ _ _ _ _ (ps_set (i:=4) sc__law_term.nd rfl (Or.inl rfl) (pe_lst (pa_cons (pe_call G__law_leaf (hr.mono (by decide)) rfl D__law_leaf.mg D__law_leaf.F.kp D__law_leaf.b .nil pass0 (pa_cons (pe_call G__law_cell_at (hr.mono (by decide)) rfl D__law_cell_at.mg D__law_cell_at.F.kp D__law_cell_at.b .nil pass0 (pa_cons (pv 0) (pa_cons (pv 1) pa_nil))) (pa_cons (pv 3) pa_nil))) pa_nil)))
      (@pss_cons _ _ _ _ _ (ps_for PassesOwn.never rfl (pi_range2 rfl T.range (pa_cons pe_int (pa_cons (pv 2) pa_nil))) (pg_name (i:=5) sc__law_term.nd rfl (Or.inl rfl))
      (@pss_cons _ _ _ _ _ (ps_set (i:=6) sc__law_term.nd rfl (Or.inl rfl) (pe_call G__law_cell_at (hr.mono (by decide)) rfl D__law_cell_at.mg D__law_cell_at.F.kp D__law_cell_at.b .nil pass0 (pa_cons (pv 0) (pa_cons (pe_op op_add (pv 1) (pv 5)) pa_nil))))
      (@pss_cons _ _ _ _ _ (ps_set (i:=7) sc__law_term.nd rfl (Or.inl rfl) (pe_op op_mod (pv 6) pe_int))
      (@pss_one _ _ _ (ps_if (pt_cmpR op_eq (pv 7) pe_int (nomark _))
      (@pss_one _ _ _ (ps_expr (pe_bm PySem.F.plainAttrs_list PySem.F.slot_list_append PySem.F.type_list_append mt_append (pv 4) (pa_cons (pe_tup (pa_cons pe_str (pa_cons (pe_bm0 PySem.F.plainAttrs_list PySem.F.slot_list_pop PySem.F.type_list_pop mt_pop (pv 4)) pa_nil))) pa_nil))))
      (@pss_one _ _ _ (ps_if (PW.pt (pw_and (pt_cmpR op_gt (pv 7) pe_int (nomark _)) (pw_and1 (pt_cmpR op_gt (pe_callB call_lenL rfl T.len PySem.boot_len (pa_cons (pv 4) pa_nil)) pe_int (nomark _)))))
      (@pss_cons _ _ _ _ _ (ps_set (i:=8) sc__law_term.nd rfl (Or.inl rfl) (pe_op op_add pe_int (pe_op op_mod (pe_op op_fdiv (pv 6) pe_int) (pe_op op_sub (pe_callB (call_min2 rfl) rfl T.min (by decide +kernel) (pa_cons pe_int (pa_cons (pe_callB call_lenL rfl T.len PySem.boot_len (pa_cons (pv 4) pa_nil)) pa_nil))) pe_int))))
      (@pss_one _ _ _ (ps_set (i:=4) sc__law_term.nd rfl (Or.inl rfl) (pe_op op_cat (pe_slice sl_list (pv 4) po_none (po_some (pe_un un_neg (pv 8)))) (pe_lst (pa_cons (pe_op op_catT (pe_tup (pa_cons (pe_ix ix_list (pe_lst (pa_cons pe_str (pa_cons pe_str pa_nil))) (pe_op op_sub (pv 7) pe_int) (fun _ _=>rfl)) pa_nil)) (pe_callTy call_tupL rfl T.tuple PyProof.Rows.boot_tuple (pa_cons (pe_slice sl_list (pv 4) (po_some (pe_un un_neg (pv 8))) po_none) pa_nil))) pa_nil))))))
      (@pss_one _ _ _ (ps_expr (pe_bm PySem.F.plainAttrs_list PySem.F.slot_list_append PySem.F.type_list_append mt_append (pv 4) (pa_cons (pe_call G__law_leaf (hr.mono (by decide)) rfl D__law_leaf.mg D__law_leaf.F.kp D__law_leaf.b .nil pass0 (pa_cons (pe_op op_fdiv (pv 6) pe_int) (pa_cons (pv 3) pa_nil))) pa_nil)))))))))))
      (@pss_cons _ _ _ _ _ (ps_while PassesOwn.never (pt_cmpR op_gt (pe_callB call_lenL rfl T.len PySem.boot_len (pa_cons (pv 4) pa_nil)) pe_int (nomark _))
      (@pss_cons _ _ _ _ _ (ps_set (i:=8) sc__law_term.nd rfl (Or.inl rfl) (pe_callB (call_min2 rfl) rfl T.min (by decide +kernel) (pa_cons pe_int (pa_cons (pe_callB call_lenL rfl T.len PySem.boot_len (pa_cons (pv 4) pa_nil)) pa_nil))))
      (@pss_one _ _ _ (ps_set (i:=4) sc__law_term.nd rfl (Or.inl rfl) (pe_op op_cat (pe_slice sl_list (pv 4) po_none (po_some (pe_un un_neg (pv 8)))) (pe_lst (pa_cons (pe_op op_catT (pe_tup (pa_cons (pe_ix ix_list (pe_lst (pa_cons pe_str (pa_cons pe_str pa_nil))) (pe_op op_mod (pe_op op_fdiv (pe_call G__law_cell_at (hr.mono (by decide)) rfl D__law_cell_at.mg D__law_cell_at.F.kp D__law_cell_at.b .nil pass0 (pa_cons (pv 0) (pa_cons (pv 1) pa_nil))) pe_int) pe_int) (fun _ _=>rfl)) pa_nil)) (pe_callTy call_tupL rfl T.tuple PyProof.Rows.boot_tuple (pa_cons (pe_slice sl_list (pv 4) (po_some (pe_un un_neg (pv 8))) po_none) pa_nil))) pa_nil)))))))
      (@pss_one _ _ _ (ps_ret (pe_ix ix_list (pv 4) pe_int (fun _ _=>rfl))))))),?_⟩
    refine tseq_open fun B hB=>?_
    and_intros
    refine ⟨a,ns,b,rfl,hS,fun c0=>⟨c0,nl,zs,rfl,hnl,z1,z20,hz,fun v tm H1 s1 ht ok dp=>⟨by decide,fun p hp=>?_⟩⟩⟩
    have s2:=Same.put (o:=.lst [v]) hp
    have f2:(upd H1 p (.lst [v])) p = some (.lst [v]):=upd_same
    generalize (upd H1 p (.lst [v])) = H2 at s2 f2 ⊢
    have hp0:H p = none:=Same.free s1 hp
    have s12:=s1.trans s2
    have ht2:=ht.same s2
    subst hB
    refine tseq_open fun B hB=>?_
    refine (show tFor _ _ _ _ _ _ from ?_)
    refine (show iRng2 _ _ _ _ from ?_)
    refine split_it (fun J H3=>H3 = H2 ∧ J = Itr 1 (m - 1)) (fun G hG=>?_) ?_
    · and_intros
      have:=hG _ _ ⟨rfl,rfl⟩
      refine ⟨by decide,by decide,by omega,by omega,?_⟩
      rw [show ((m:Int) - 1).toNat = m - 1 by omega]
      exact this
    rintro _ H3 ⟨hH3,rfl⟩
    subst hH3
    refine for_range (n:=m - 1) (fun i σ H'=>Same H H' ∧ ∃ (p:Addr) (vs:List V) (tms:List Tm),H p = none ∧ H' p = some (.lst vs) ∧ TmsAt H' vs tms ∧ okL tms ∧ dpL tms ≤ i ∧ 1 ≤ vs.length ∧ vs.length ≤ i + 1 ∧ ∃ o5 o6 o7 o8:Option V,StIs σ [some (.ref a),some (.int b),some (.int m),some (.ref nl),some (.ref p),o5,o6,o7,o8]) ⟨s12,p,[v],[tm],hp0,f2,by unfold TmsAt; exact ⟨ht2,by unfold TmsAt; trivial⟩,okL_of (fun q hq=>by rw [List.mem_singleton.mp hq]; exact ok),dpL_le (fun q hq=>by rw [List.mem_singleton.mp hq]; omega),Nat.le_refl _,Nat.le_refl _,none,none,none,none,StIs.rfl⟩ ?_ ?_
    · rintro i σ H' hi ⟨s3,p,vs,tms,hp0,hp,htm,ok,dp,l1,li,o5,o6,o7,o8,rfl⟩
      refine tseq_open fun B2 hB2=>?_
      and_intros
      refine ⟨a,ns,b + (1 + i),by rw [show ((b:Int) + (1 + (i:Int))) = ((b + (1 + i):Nat):Int) by omega],hS.same s3,fun c=>?_⟩
      subst hB2
      refine tseq_open fun B2 hB2=>?_
      and_intros
      have e0:=Int.emod_nonneg c (show (6:Int) ≠ 0 by decide)
      have e6:=Int.emod_lt_of_pos c (show (0:Int) < 6 by decide)
      generalize c % 6 = wy at e0 e6 ⊢
      subst hB2
      refine tIfS_open (fun b H1=>H1 = H' ∧ b = decide (wy = 5)) (fun G hG=>?_) (fun H1 ⟨eH,e5⟩=>?_) (fun H1 ⟨eH,e5⟩=>?_)
      · and_intros
        exact hG _ _ ⟨rfl,rfl⟩
      · rw [eH]
        and_intros
        obtain ⟨v,ev⟩:∃ v,vs[vs.length - 1]? = some v:=⟨_,List.getElem?_eq_getElem (by omega)⟩
        obtain ⟨pm,hpm,hv⟩:=htm.get ev
        have hmem:=List.mem_of_getElem? hpm
        have dmem:=dpL_mem hmem
        refine ⟨.inl ⟨rfl,_,SqL.of hp⟩,.inl ⟨rfl,_,SqL.of hp⟩,vs,hp,v,ev,by decide,fun q hq=>?_⟩
        have tup1:=lst_tups (o:=.lst vs.dropLast) hp
        have sK:Same H (upd H' p (.lst vs.dropLast)):=same_ne s3 hp0
        have kp:(upd H' p (.lst vs.dropLast)) p = some (.lst vs.dropLast):=upd_same
        generalize (upd H' p (.lst vs.dropLast)) = K1 at tup1 sK kp hq ⊢
        have t2:=Same.put (o:=.tup [.str "not",v]) hq
        have g2:(upd K1 q (.tup [.str "not",v])) q = some (.tup [.str "not",v]):=upd_same
        generalize (upd K1 q (.tup [.str "not",v])) = K2 at t2 g2 ⊢
        have tA:∀ b ys,H' b = some (.tup ys) → K2 b = some (.tup ys):=fun b ys e=>t2 _ _ (tup1 b ys e)
        obtain ⟨tm1,h1,o1,d1⟩:=stack_take htm ok dp (vs.length - 1)
        rw [← List.dropLast_eq_take] at h1
        obtain ⟨tms',htm',ok',dp'⟩:=stack_snoc (k:=i + 1) (v:=.ref q) (tm:=.not pm) (h1.tups tA) o1 (by omega) (by unfold TmAt; exact ⟨q,v,rfl,g2,hv.tups tA⟩) (by unfold okT; exact okL_mem ok hmem) (by unfold dpT; omega)
        have lv:(vs.dropLast ++ [V.ref q]).length = vs.length:=by
          rw [List.length_append,List.length_dropLast]
          simp only [List.length_cons,List.length_nil]
          omega
        exact ⟨_,t2 _ _ kp,small1000 (by rw [List.length_dropLast]; omega),same_ne (sK.trans t2) hp0,p,hp0,_,upd_same,tms',htm'.tups (lst_tups (t2 _ _ kp)),ok',dp',by omega,by omega,_,_,_,_,StIs.rfl⟩
      · rw [eH]
        refine tIfS_open (fun b H1=>H1 = H' ∧ (b = true → 2 < wy ∧ 1 < vs.length)) (fun G hG=>?_) (fun H1 ⟨eH,e2⟩=>?_) (fun H1 ⟨eH,e2⟩=>?_)
        · and_intros
          exact ite2 (fun h=>⟨_,SqL.of hp,hG _ _ ⟨rfl,fun h2=>⟨h,by have:=of_decide_eq_true h2; omega⟩⟩⟩) fun h=>hG _ _ ⟨rfl,fun h2=>nomatch h2⟩
        · rw [eH]
          obtain ⟨w2,v1⟩:=e2 rfl
          have w5:¬ wy = 5:=of_decide_eq_false e5.symm
          refine tseq_open fun B2 hB2=>?_
          and_intros
          refine ⟨_,SqL.of hp,by split <;> omega,?_⟩
          obtain ⟨sz,esz,z2,z6,zl⟩:∃ sz:Nat,2 + c / 6 % ((if (vs.length:Int) < 6 then (vs.length:Int) else 6) - 1) = (sz:Int) ∧ 2 ≤ sz ∧ sz ≤ 6 ∧ sz ≤ vs.length:=by
            have q0:=Int.emod_nonneg (c / 6) (show (if (vs.length:Int) < 6 then (vs.length:Int) else 6) - 1 ≠ 0 by split <;> omega)
            have q1:=Int.emod_lt_of_pos (c / 6) (show 0 < (if (vs.length:Int) < 6 then (vs.length:Int) else 6) - 1 by split <;> omega)
            generalize c / 6 % ((if (vs.length:Int) < 6 then (vs.length:Int) else 6) - 1) = u at q0 q1 ⊢
            refine ⟨(2 + u).toNat,by omega,by omega,?_,?_⟩
            · split at q1 <;> omega
            · split at q1 <;> omega
          rw [esz]
          subst hB2
          and_intros
          refine ⟨_,SqL.of hp,fun q1 h1=>?_⟩
          rw [cut_toN (n:=sz) (by omega) (by omega)]
          have t1:=Same.put (o:=.lst (vs.take (vs.length - sz))) h1
          have g1:(upd H' q1 (.lst (vs.take (vs.length - sz)))) q1 = some (.lst (vs.take (vs.length - sz))):=upd_same
          generalize (upd H' q1 (.lst (vs.take (vs.length - sz)))) = J1 at t1 g1 ⊢
          refine ⟨by decide,fun q2 h2=>?_⟩
          have t2:=Same.put (o:=.lst [.str "all",.str "any"]) h2
          have g2:(upd J1 q2 (.lst [.str "all",.str "any"])) q2 = some (.lst [.str "all",.str "any"]):=upd_same
          generalize (upd J1 q2 (.lst [.str "all",.str "any"])) = J2 at t2 g2 ⊢
          obtain ⟨bb,ebb⟩:∃ bb,atI ([.str "all",.str "any"]:List V) (wy - 3) = some (.str (wJ bb)):=by
            rcases (show wy = 3 ∨ wy = 4 by omega) with h | h
            · rw [h]; exact ⟨true,rfl⟩
            · rw [h]; exact ⟨false,rfl⟩
          refine ⟨_,SqL.of g2,.str (wJ bb),ebb,by decide,fun q3 h3=>?_⟩
          have t3:=Same.put (o:=.tup [.str (wJ bb)]) h3
          have g3:(upd J2 q3 (.tup [.str (wJ bb)])) q3 = some (.tup [.str (wJ bb)]):=upd_same
          generalize (upd J2 q3 (.tup [.str (wJ bb)])) = J3 at t3 g3 ⊢
          have t13:=(t1.trans t2).trans t3
          refine ⟨_,SqL.of (t13 _ _ hp),fun q4 h4=>?_⟩
          rw [cut_fromN (n:=sz) (by omega) (by omega)]
          have t4:=Same.put (o:=.lst (vs.drop (vs.length - sz))) h4
          have g4:(upd J3 q4 (.lst (vs.drop (vs.length - sz)))) q4 = some (.lst (vs.drop (vs.length - sz))):=upd_same
          generalize (upd J3 q4 (.lst (vs.drop (vs.length - sz)))) = J4 at t4 g4 ⊢
          refine ⟨_,SqL.of g4,fun q5 h5=>?_⟩
          have t5:=Same.put (o:=.tup (vs.drop (vs.length - sz))) h5
          have g5:(upd J4 q5 (.tup (vs.drop (vs.length - sz)))) q5 = some (.tup (vs.drop (vs.length - sz))):=upd_same
          generalize (upd J4 q5 (.tup (vs.drop (vs.length - sz)))) = J5 at t5 g5 ⊢
          have t45:=t4.trans t5
          have ne:vs.drop (vs.length - sz) ≠ []:=fun e=>by
            have:=congrArg List.length e
            rw [List.length_drop,List.length_nil] at this
            omega
          refine ⟨_,SqT.of (t45 _ _ g3),_,SqT.of g5,by simp,?_,fun e=>absurd e ne,fun _ q6 h6=>?_⟩
          · exact Nat.le_of_lt (small1000 (by rw [List.length_drop]; simp only [List.length_cons,List.length_nil]; omega))
          have t6:=Same.put (o:=.tup ([.str (wJ bb)] ++ vs.drop (vs.length - sz))) h6
          have g6:(upd J5 q6 (.tup ([.str (wJ bb)] ++ vs.drop (vs.length - sz)))) q6 = some (.tup (.str (wJ bb) :: vs.drop (vs.length - sz))):=upd_same
          generalize (upd J5 q6 (.tup ([.str (wJ bb)] ++ vs.drop (vs.length - sz)))) = J6 at t6 g6 ⊢
          refine ⟨by decide,fun q7 h7=>?_⟩
          have t7:=Same.put (o:=.lst [.ref q6]) h7
          have g7:(upd J6 q7 (.lst [.ref q6])) q7 = some (.lst [.ref q6]):=upd_same
          generalize (upd J6 q7 (.lst [.ref q6])) = J7 at t7 g7 ⊢
          have t27:=(((t2.trans t3).trans t45).trans t6).trans t7
          refine ⟨_,t27 _ _ g1,_,g7,?_,fun q8 h8=>?_⟩
          · exact Nat.le_of_lt (small1000 (by rw [List.length_take]; simp only [List.length_cons,List.length_nil]; omega))
          have t8:=Same.put (o:=.lst (vs.take (vs.length - sz) ++ [.ref q6])) h8
          have g8:(upd J7 q8 (.lst (vs.take (vs.length - sz) ++ [.ref q6]))) q8 = some (.lst (vs.take (vs.length - sz) ++ [.ref q6])):=upd_same
          generalize (upd J7 q8 (.lst (vs.take (vs.length - sz) ++ [.ref q6]))) = J8 at t8 g8 ⊢
          have t17:=t1.trans t27
          have t18:=t17.trans t8
          obtain ⟨tms',htm',ok',dp'⟩:=stack_fold (b:=bb) (q:=q6) (n:=sz) (htm.same t18) (by omega) (by omega) ok dp (t8 _ _ (t7 _ _ g6))
          have l8:(vs.take (vs.length - sz) ++ [V.ref q6]).length = vs.length - sz + 1:=by
            rw [List.length_append,List.length_take]
            simp only [List.length_cons,List.length_nil]
            omega
          exact ⟨s3.trans t18,q8,Same.free (s3.trans t17) h8,_,g8,tms',htm',ok',dp',by omega,by omega,_,_,_,_,StIs.rfl⟩
        · rw [eH]
          and_intros
          refine ⟨.inl ⟨rfl,_,SqL.of hp⟩,c / 6,nl,zs,rfl,s3 _ _ hnl,z1,z20,hz,fun v tm H2 s2 ht2 ok2 dp2=>?_⟩
          obtain ⟨tms',htm',ok',dp'⟩:=stack_snoc (k:=i + 1) (htm.same s2) ok (by omega) ht2 ok2 (by omega)
          have lv:(vs ++ [v]).length = vs.length + 1:=by
            rw [List.length_append]
            rfl
          exact ⟨_,s2 _ _ hp,small1000 (by omega),same_ne (s3.trans s2) hp0,p,hp0,_,upd_same,tms',htm'.tups (lst_tups (s2 _ _ hp)),ok',dp',by omega,by omega,_,_,_,_,StIs.rfl⟩
    rintro σ H' ⟨s3,p,vs,tms,hp0,hp,htm,ok,dp,l1,li,o5,o6,o7,o8,rfl⟩
    dsimp only
    subst hB
    refine tseq_open fun B hB=>?_
    and_intros
    refine ⟨fun mm σ H'=>Same H H' ∧ ∃ (p:Addr) (vs:List V) (tms:List Tm),H' p = some (.lst vs) ∧ TmsAt H' vs tms ∧ okL tms ∧ 1 ≤ vs.length ∧ vs.length = mm ∧ vs.length ≤ 7 ∧ (6 < vs.length → dpL tms ≤ 6) ∧ (1 < vs.length → dpL tms ≤ 7) ∧ dpL tms ≤ 8 ∧ ∃ o8:Option V,StIs σ [some (.ref a),some (.int b),some (.int m),some (.ref nl),some (.ref p),o5,o6,o7,o8],⟨_,s3,p,vs,tms,hp,htm,ok,l1,rfl,by omega,fun _=>by omega,fun _=>by omega,by omega,o8,StIs.rfl⟩,?_⟩
    clear hp0 hp htm ok dp l1 li s3
    rintro mm σ H' ⟨s3,p,vs,tms,hp,htm,ok,l1,lm,l7,dA,dB,dC,o8,rfl⟩
    and_intros
    refine ⟨_,SqL.of hp,ite2 (fun hx=>?_) fun hx=>?_⟩
    · refine ⟨fun σ' H1=>Same H H1 ∧ ∃ (p1:Addr) (vs1:List V) (tms1:List Tm),H1 p1 = some (.lst vs1) ∧ TmsAt H1 vs1 tms1 ∧ okL tms1 ∧ 1 ≤ vs1.length ∧ vs1.length < mm ∧ vs1.length ≤ 7 ∧ (6 < vs1.length → dpL tms1 ≤ 6) ∧ (1 < vs1.length → dpL tms1 ≤ 7) ∧ dpL tms1 ≤ 8 ∧ ∃ o8:Option V,StIs σ' [some (.ref a),some (.int b),some (.int m),some (.ref nl),some (.ref p1),o5,o6,o7,o8],fun σ' H1 ⟨e1,p1,vs1,tms1,e2,e3,e4,e5,e6,e7,e8,e9,e10,o8',e11⟩=>⟨vs1.length,e6,e1,p1,vs1,e2,tms1,e3,e4,e5,rfl,e7,e8,e9,e10,o8',e11⟩,_,SqL.of hp,?_⟩
      obtain ⟨sz,esz,z2,z6,zl,zz⟩:∃ sz:Nat,(if (vs.length:Int) < 6 then (vs.length:Int) else 6) = (sz:Int) ∧ 2 ≤ sz ∧ sz ≤ 6 ∧ sz ≤ vs.length ∧ (sz = 6 ∨ sz = vs.length):=by
        by_cases h:(vs.length:Int) < 6
        · rw [if_pos h]; exact ⟨vs.length,rfl,by omega,by omega,Nat.le_refl _,.inr rfl⟩
        · rw [if_neg h]; exact ⟨6,rfl,by omega,by omega,by omega,.inl rfl⟩
      rw [esz]
      have dp:dpL tms ≤ dpL tms:=Nat.le_refl _
      refine ⟨_,SqL.of hp,fun q1 h1=>?_⟩
      rw [cut_toN (n:=sz) (by omega) (by omega)]
      have t1:=Same.put (o:=.lst (vs.take (vs.length - sz))) h1
      have g1:(upd H' q1 (.lst (vs.take (vs.length - sz)))) q1 = some (.lst (vs.take (vs.length - sz))):=upd_same
      generalize (upd H' q1 (.lst (vs.take (vs.length - sz)))) = J1 at t1 g1 ⊢
      refine ⟨by decide,fun q2 h2=>?_⟩
      have t2:=Same.put (o:=.lst [.str "any",.str "all"]) h2
      have g2:(upd J1 q2 (.lst [.str "any",.str "all"])) q2 = some (.lst [.str "any",.str "all"]):=upd_same
      generalize (upd J1 q2 (.lst [.str "any",.str "all"])) = J2 at t2 g2 ⊢
      refine ⟨a,ns,b,rfl,hS.same ((s3.trans t1).trans t2),fun c2=>⟨c2,rfl,?_⟩⟩
      obtain ⟨bb,ebb⟩:∃ bb,atI ([.str "any",.str "all"]:List V) (c2 / 7 % 2) = some (.str (wJ bb)):=by
        have q0:=Int.emod_nonneg (c2 / 7) (show (2:Int) ≠ 0 by decide)
        have q1:=Int.emod_lt_of_pos (c2 / 7) (show (0:Int) < 2 by decide)
        rcases (show c2 / 7 % 2 = 0 ∨ c2 / 7 % 2 = 1 by omega) with h | h
        · rw [h]; exact ⟨false,rfl⟩
        · rw [h]; exact ⟨true,rfl⟩
      refine ⟨_,SqL.of g2,.str (wJ bb),ebb,by decide,fun q3 h3=>?_⟩
      have t3:=Same.put (o:=.tup [.str (wJ bb)]) h3
      have g3:(upd J2 q3 (.tup [.str (wJ bb)])) q3 = some (.tup [.str (wJ bb)]):=upd_same
      generalize (upd J2 q3 (.tup [.str (wJ bb)])) = J3 at t3 g3 ⊢
      have t13:=(t1.trans t2).trans t3
      refine ⟨_,SqL.of (t13 _ _ hp),fun q4 h4=>?_⟩
      rw [cut_fromN (n:=sz) (by omega) (by omega)]
      have t4:=Same.put (o:=.lst (vs.drop (vs.length - sz))) h4
      have g4:(upd J3 q4 (.lst (vs.drop (vs.length - sz)))) q4 = some (.lst (vs.drop (vs.length - sz))):=upd_same
      generalize (upd J3 q4 (.lst (vs.drop (vs.length - sz)))) = J4 at t4 g4 ⊢
      refine ⟨_,SqL.of g4,fun q5 h5=>?_⟩
      have t5:=Same.put (o:=.tup (vs.drop (vs.length - sz))) h5
      have g5:(upd J4 q5 (.tup (vs.drop (vs.length - sz)))) q5 = some (.tup (vs.drop (vs.length - sz))):=upd_same
      generalize (upd J4 q5 (.tup (vs.drop (vs.length - sz)))) = J5 at t5 g5 ⊢
      have t45:=t4.trans t5
      have ne:vs.drop (vs.length - sz) ≠ []:=fun e=>by
        have:=congrArg List.length e
        rw [List.length_drop,List.length_nil] at this
        omega
      refine ⟨_,SqT.of (t45 _ _ g3),_,SqT.of g5,by simp,?_,fun e=>absurd e ne,fun _ q6 h6=>?_⟩
      · exact Nat.le_of_lt (small1000 (by rw [List.length_drop]; simp only [List.length_cons,List.length_nil]; omega))
      have t6:=Same.put (o:=.tup ([.str (wJ bb)] ++ vs.drop (vs.length - sz))) h6
      have g6:(upd J5 q6 (.tup ([.str (wJ bb)] ++ vs.drop (vs.length - sz)))) q6 = some (.tup (.str (wJ bb) :: vs.drop (vs.length - sz))):=upd_same
      generalize (upd J5 q6 (.tup ([.str (wJ bb)] ++ vs.drop (vs.length - sz)))) = J6 at t6 g6 ⊢
      refine ⟨by decide,fun q7 h7=>?_⟩
      have t7:=Same.put (o:=.lst [.ref q6]) h7
      have g7:(upd J6 q7 (.lst [.ref q6])) q7 = some (.lst [.ref q6]):=upd_same
      generalize (upd J6 q7 (.lst [.ref q6])) = J7 at t7 g7 ⊢
      have t27:=(((t2.trans t3).trans t45).trans t6).trans t7
      refine ⟨_,t27 _ _ g1,_,g7,?_,fun q8 h8=>?_⟩
      · exact Nat.le_of_lt (small1000 (by rw [List.length_take]; simp only [List.length_cons,List.length_nil]; omega))
      have t8:=Same.put (o:=.lst (vs.take (vs.length - sz) ++ [.ref q6])) h8
      have g8:(upd J7 q8 (.lst (vs.take (vs.length - sz) ++ [.ref q6]))) q8 = some (.lst (vs.take (vs.length - sz) ++ [.ref q6])):=upd_same
      generalize (upd J7 q8 (.lst (vs.take (vs.length - sz) ++ [.ref q6]))) = J8 at t8 g8 ⊢
      have t17:=t1.trans t27
      have t18:=t17.trans t8
      obtain ⟨tms',htm',ok',dp'⟩:=stack_fold (b:=bb) (q:=q6) (n:=sz) (htm.same t18) (by omega) (by omega) ok dp (t8 _ _ (t7 _ _ g6))
      have l8:(vs.take (vs.length - sz) ++ [V.ref q6]).length = vs.length - sz + 1:=by
        rw [List.length_append,List.length_take]
        simp only [List.length_cons,List.length_nil]
        omega
      refine ⟨s3.trans t18,q8,_,tms',g8,htm',ok',by omega,by omega,by omega,fun h=>by omega,fun h=>?_,?_,_,StIs.rfl⟩
      · have:=dA (by omega)
        omega
      · have:=dB (by omega)
        omega
    · obtain ⟨v,ev⟩:∃ v,vs[0]? = some v:=⟨_,List.getElem?_eq_getElem (by omega)⟩
      obtain ⟨pm,hpm,hv⟩:=htm.get ev
      have hmem:=List.mem_of_getElem? hpm
      have dmem:=dpL_mem hmem
      subst hB
      and_intros
      exact ⟨_,SqL.of hp,_,(show atI _ ((0:Nat):Int) = _ from atI_nat ev),k v pm H' s3 hv (okL_mem ok hmem) (by omega)⟩
theorem ok__law_fault {f:Addr} {fd:FuncData} {n:Nat} (D:Def K mg "_law_fault" s__law_fault ["_law_term_here"] f fd) (T:Txt K mg ad) {f_Has_init:Addr} {fd_Has_init:FuncData} (G_Has_init:FnOk P w K mg base CX0 1 f_Has_init fd_Has_init ["self","mark"] (sp_Has_init ad)) {f_Many_init:Addr} {fd_Many_init:FuncData} (G_Many_init:FnOk P w K mg base CX0 1 f_Many_init fd_Many_init ["self","number","mark"] (sp_Many_init ad)) {f_Pair_init:Addr} {fd_Pair_init:FuncData} (G_Pair_init:FnOk P w K mg base CX0 1 f_Pair_init fd_Pair_init ["self","one","other"] (sp_Pair_init ad)) {f_Not_init:Addr} {fd_Not_init:FuncData} (G_Not_init:FnOk P w K mg base CX0 1 f_Not_init fd_Not_init ["self","part"] (sp_Not_init ad)) {f__law_fault:Addr} {fd__law_fault:FuncData} (G__law_fault:FnOk P w K mg base CX0 (n + 3) f__law_fault fd__law_fault ["_law_term_here"] (sp__law_fault ad n)) {f_Joint_init:Addr} {fd_Joint_init:FuncData} (G_Joint_init:FnOk P w K mg base CX0 1 f_Joint_init fd_Joint_init ["self","parts"] (sp_Joint_init K ad)) (D__law_fault:Def K mg "_law_fault" s__law_fault ["_law_term_here"] f__law_fault fd__law_fault) (B_Has_init:Binds K fd_Has_init ["self","mark"] []) (B_Many_init:Binds K fd_Many_init ["self","number","mark"] []) (B_Pair_init:Binds K fd_Pair_init ["self","one","other"] []) (B_Not_init:Binds K fd_Not_init ["self","part"] []) (B_Joint_init:Binds K fd_Joint_init ["self","parts"] []) (M_Has:Mk K ad.Has f_Has_init) (M_Many:Mk K ad.Many f_Many_init) (M_Before:Mk K ad.Before f_Pair_init) (M_Under:Mk K ad.Under f_Pair_init) (M_Beside:Mk K ad.Beside f_Pair_init) (M_Not:Mk K ad.Not f_Not_init) (M_All:Mk K ad.All f_Joint_init) (M_Any:Mk K ad.Any f_Joint_init):FnOk P w K mg base CX0 (n + 1 + 3) f fd ["_law_term_here"] (sp__law_fault ad (n + 1)):=by
  refine D.F.ok sc__law_fault (fun vs H Q E h=>?_) (fun cdv A outer s H vs Q E hr h=>?_)
  · obtain ⟨v,tm,rfl,_⟩:=h
    rfl
  · obtain ⟨v,tm,rfl,ht,ok,dp,k⟩:=h
    refine ⟨_,(@pss_cons _ _ _ _ _ (ps_if (pt_cmpR op_eq (pe_ix ix_tup (pv 0) pe_int (fun _ _=>rfl)) pe_str (nomark _))
      (@pss_one _ _ _ (ps_ret (pe_make M_Has G_Has_init (hr.mono (by omega)) rfl T.c_Has B_Has_init .nil pass0 (pa_cons (pe_ix ix_tup (pv 0) pe_int (fun _ _=>rfl)) pa_nil))))
      pss_nil)
      (@pss_cons _ _ _ _ _ (ps_if (pt_cmpR op_eq (pe_ix ix_tup (pv 0) pe_int (fun _ _=>rfl)) pe_str (nomark _))
      (@pss_one _ _ _ (ps_ret (pe_make M_Many G_Many_init (hr.mono (by omega)) rfl T.c_Many B_Many_init .nil pass0 (pa_cons (pe_ix ix_tup (pv 0) pe_int (fun _ _=>rfl)) (pa_cons (pe_ix ix_tup (pv 0) pe_int (fun _ _=>rfl)) pa_nil)))))
      pss_nil)
      (@pss_cons _ _ _ _ _ (ps_if (pt_cmpR op_eq (pe_ix ix_tup (pv 0) pe_int (fun _ _=>rfl)) pe_str (nomark _))
      (@pss_one _ _ _ (ps_ret (pe_make M_Before G_Pair_init (hr.mono (by omega)) rfl T.c_Before B_Pair_init .nil pass0 (pa_cons (pe_ix ix_tup (pv 0) pe_int (fun _ _=>rfl)) (pa_cons (pe_ix ix_tup (pv 0) pe_int (fun _ _=>rfl)) pa_nil)))))
      pss_nil)
      (@pss_cons _ _ _ _ _ (ps_if (pt_cmpR op_eq (pe_ix ix_tup (pv 0) pe_int (fun _ _=>rfl)) pe_str (nomark _))
      (@pss_one _ _ _ (ps_ret (pe_make M_Under G_Pair_init (hr.mono (by omega)) rfl T.c_Under B_Pair_init .nil pass0 (pa_cons (pe_ix ix_tup (pv 0) pe_int (fun _ _=>rfl)) (pa_cons (pe_ix ix_tup (pv 0) pe_int (fun _ _=>rfl)) pa_nil)))))
      pss_nil)
      (@pss_cons _ _ _ _ _ (ps_if (pt_cmpR op_eq (pe_ix ix_tup (pv 0) pe_int (fun _ _=>rfl)) pe_str (nomark _))
      (@pss_one _ _ _ (ps_ret (pe_make M_Beside G_Pair_init (hr.mono (by omega)) rfl T.c_Beside B_Pair_init .nil pass0 (pa_cons (pe_ix ix_tup (pv 0) pe_int (fun _ _=>rfl)) (pa_cons (pe_ix ix_tup (pv 0) pe_int (fun _ _=>rfl)) pa_nil)))))
      pss_nil)
      (@pss_cons _ _ _ _ _ (ps_if (pt_cmpR op_eq (pe_ix ix_tup (pv 0) pe_int (fun _ _=>rfl)) pe_str (nomark _))
      (@pss_one _ _ _ (ps_ret (pe_make M_Not G_Not_init (hr.mono (by omega)) rfl T.c_Not B_Not_init .nil pass0 (pa_cons (pe_call G__law_fault (hr.mono (by omega)) rfl D__law_fault.mg D__law_fault.F.kp D__law_fault.b .nil pass0 (pa_cons (pe_ix ix_tup (pv 0) pe_int (fun _ _=>rfl)) pa_nil)) pa_nil))))
      pss_nil)
      (@pss_cons _ _ _ _ _ (ps_if (pt_cmpR op_eq (pe_ix ix_tup (pv 0) pe_int (fun _ _=>rfl)) pe_str (nomark _))
      (@pss_one _ _ _ (ps_ret (pe_make M_All G_Joint_init (hr.mono (by omega)) rfl T.c_All B_Joint_init .nil pass0 (pa_cons (pe_comp (own:=["_law_part"]) (cap:=[]) (ix:=[]) rfl (show CompScope ["_law_term_here"] (defScope s__law_fault) _ ["_law_part"] [] [] from ⟨rfl,by decide +kernel,by decide +kernel,by decide +kernel,by decide +kernel,by decide +kernel,by decide +kernel,rfl,by decide +kernel⟩) (pi_tup (pe_slice sl_tupA (pv 0) (po_some pe_int) po_none)) (fun C s₀ H₀ ex pn=>⟨pg_name (i:=0) (show (["_law_part"]:List Str).Nodup by decide +kernel) rfl (Or.inl rfl),pifs_nil,(pe_call G__law_fault (hr.mono (by omega)) rfl D__law_fault.mg D__law_fault.F.kp D__law_fault.b .nil pass0 (pa_cons (pv 0) pa_nil))⟩)) pa_nil))))
      pss_nil)
      (@pss_one _ _ _ (ps_ret (pe_make M_Any G_Joint_init (hr.mono (by omega)) rfl T.c_Any B_Joint_init .nil pass0 (pa_cons (pe_comp (own:=["_law_part"]) (cap:=[]) (ix:=[]) rfl (show CompScope ["_law_term_here"] (defScope s__law_fault) _ ["_law_part"] [] [] from ⟨rfl,by decide +kernel,by decide +kernel,by decide +kernel,by decide +kernel,by decide +kernel,by decide +kernel,rfl,by decide +kernel⟩) (pi_tup (pe_slice sl_tupA (pv 0) (po_some pe_int) po_none)) (fun C s₀ H₀ ex pn=>⟨pg_name (i:=0) (show (["_law_part"]:List Str).Nodup by decide +kernel) rfl (Or.inl rfl),pifs_nil,(pe_call G__law_fault (hr.mono (by omega)) rfl D__law_fault.mg D__law_fault.F.kp D__law_fault.b .nil pass0 (pa_cons (pv 0) pa_nil))⟩)) pa_nil))))))))))),?_⟩
    cases tm with
    | has m =>
      unfold TmAt at ht
      obtain ⟨a,rfl,ha⟩:=ht
      and_intros
      refine ⟨_,SqT.of ha,_,rfl,rfl,?_⟩
      rw [if_pos rfl]
      refine ⟨_,SqT.of ha,_,rfl,fun z dx hz hdx hne=>⟨z,dx,m,rfl,upd_same,rfl,?_⟩⟩
      rw [upd_upd]
      exact k (.ref z) _ (mkSame hz hdx hne) (by unfold FtAt; exact ⟨z,dx,rfl,upd_same⟩)
    | many i m =>
      unfold TmAt at ht
      obtain ⟨a,rfl,ha⟩:=ht
      and_intros
      refine ⟨_,SqT.of ha,_,rfl,rfl,?_⟩
      rw [if_neg (by decide +kernel)]
      refine ⟨_,SqT.of ha,_,rfl,rfl,?_⟩
      rw [if_pos rfl]
      refine ⟨_,SqT.of ha,_,rfl,_,SqT.of ha,_,rfl,fun z dx hz hdx hne=>⟨z,dx,i,m,rfl,upd_same,rfl,?_⟩⟩
      rw [upd_upd]
      exact k (.ref z) _ (mkSame hz hdx hne) (by unfold FtAt; exact ⟨z,dx,rfl,upd_same⟩)
    | pair w x y =>
      unfold TmAt at ht
      obtain ⟨a,rfl,ha⟩:=ht
      unfold okT at ok
      rcases ok.1 with rfl | rfl | rfl
      · and_intros
        refine ⟨_,SqT.of ha,_,rfl,rfl,?_⟩
        rw [if_neg (by decide +kernel)]
        refine ⟨_,SqT.of ha,_,rfl,rfl,?_⟩
        rw [if_neg (by decide +kernel)]
        refine ⟨_,SqT.of ha,_,rfl,rfl,?_⟩
        rw [if_pos rfl]
        have hcl:clsP ad "before" = ad.Before:=if_pos rfl
        refine ⟨_,SqT.of ha,_,rfl,_,SqT.of ha,_,rfl,fun z dx hz hdx hne=>⟨z,dx,"before",x,y,rfl,by rw [hcl]; exact upd_same,rfl,?_⟩⟩
        rw [hcl,upd_upd]
        exact k (.ref z) _ (mkSame hz hdx hne) (by unfold FtAt; rw [hcl]; exact ⟨z,dx,rfl,upd_same⟩)
      · and_intros
        refine ⟨_,SqT.of ha,_,rfl,rfl,?_⟩
        rw [if_neg (by decide +kernel)]
        refine ⟨_,SqT.of ha,_,rfl,rfl,?_⟩
        rw [if_neg (by decide +kernel)]
        refine ⟨_,SqT.of ha,_,rfl,rfl,?_⟩
        rw [if_neg (by decide +kernel)]
        refine ⟨_,SqT.of ha,_,rfl,rfl,?_⟩
        rw [if_pos rfl]
        have hcl:clsP ad "under" = ad.Under:=by unfold clsP; rw [if_neg (by decide +kernel),if_pos rfl]
        refine ⟨_,SqT.of ha,_,rfl,_,SqT.of ha,_,rfl,fun z dx hz hdx hne=>⟨z,dx,"under",x,y,rfl,by rw [hcl]; exact upd_same,rfl,?_⟩⟩
        rw [hcl,upd_upd]
        exact k (.ref z) _ (mkSame hz hdx hne) (by unfold FtAt; rw [hcl]; exact ⟨z,dx,rfl,upd_same⟩)
      · and_intros
        refine ⟨_,SqT.of ha,_,rfl,rfl,?_⟩
        rw [if_neg (by decide +kernel)]
        refine ⟨_,SqT.of ha,_,rfl,rfl,?_⟩
        rw [if_neg (by decide +kernel)]
        refine ⟨_,SqT.of ha,_,rfl,rfl,?_⟩
        rw [if_neg (by decide +kernel)]
        refine ⟨_,SqT.of ha,_,rfl,rfl,?_⟩
        rw [if_neg (by decide +kernel)]
        refine ⟨_,SqT.of ha,_,rfl,rfl,?_⟩
        rw [if_pos rfl]
        have hcl:clsP ad "beside" = ad.Beside:=by unfold clsP; rw [if_neg (by decide +kernel),if_neg (by decide +kernel)]
        refine ⟨_,SqT.of ha,_,rfl,_,SqT.of ha,_,rfl,fun z dx hz hdx hne=>⟨z,dx,"beside",x,y,rfl,by rw [hcl]; exact upd_same,rfl,?_⟩⟩
        rw [hcl,upd_upd]
        exact k (.ref z) _ (mkSame hz hdx hne) (by unfold FtAt; rw [hcl]; exact ⟨z,dx,rfl,upd_same⟩)
    | not p =>
      unfold TmAt at ht
      obtain ⟨a,x,rfl,ha,hx⟩:=ht
      unfold okT at ok
      unfold dpT at dp
      and_intros
      refine ⟨_,SqT.of ha,_,rfl,rfl,?_⟩
      rw [if_neg (by decide +kernel)]
      refine ⟨_,SqT.of ha,_,rfl,rfl,?_⟩
      rw [if_neg (by decide +kernel)]
      refine ⟨_,SqT.of ha,_,rfl,rfl,?_⟩
      rw [if_neg (by decide +kernel)]
      refine ⟨_,SqT.of ha,_,rfl,rfl,?_⟩
      rw [if_neg (by decide +kernel)]
      refine ⟨_,SqT.of ha,_,rfl,rfl,?_⟩
      rw [if_neg (by decide +kernel)]
      refine ⟨_,SqT.of ha,_,rfl,rfl,?_⟩
      rw [if_pos rfl]
      refine ⟨_,SqT.of ha,_,rfl,x,p,rfl,hx,ok,by omega,fun u H1 s1 f1=>fun z dx hz hdx hne=>⟨z,dx,u,rfl,upd_same,rfl,?_⟩⟩
      rw [upd_upd]
      exact k (.ref z) _ (s1.trans (mkSame hz hdx hne)) (by unfold FtAt; exact ⟨z,dx,u,rfl,upd_same,f1.same (mkSame hz hdx hne)⟩)
    | joint b ps =>
      unfold TmAt at ht
      obtain ⟨a,xs,rfl,ha,hts⟩:=ht
      unfold okT at ok
      unfold dpT at dp
      cases b with
      | true =>
        have ha:H a = some (.tup (.str "all" :: xs)):=ha
        and_intros
        refine ⟨_,SqT.of ha,_,(show atI _ ((0:Nat):Int) = _ from atI_nat rfl),rfl,?_⟩
        rw [if_neg (by decide +kernel)]
        refine ⟨_,SqT.of ha,_,(show atI _ ((0:Nat):Int) = _ from atI_nat rfl),rfl,?_⟩
        rw [if_neg (by decide +kernel)]
        refine ⟨_,SqT.of ha,_,(show atI _ ((0:Nat):Int) = _ from atI_nat rfl),rfl,?_⟩
        rw [if_neg (by decide +kernel)]
        refine ⟨_,SqT.of ha,_,(show atI _ ((0:Nat):Int) = _ from atI_nat rfl),rfl,?_⟩
        rw [if_neg (by decide +kernel)]
        refine ⟨_,SqT.of ha,_,(show atI _ ((0:Nat):Int) = _ from atI_nat rfl),rfl,?_⟩
        rw [if_neg (by decide +kernel)]
        refine ⟨_,SqT.of ha,_,(show atI _ ((0:Nat):Int) = _ from atI_nat rfl),rfl,?_⟩
        rw [if_neg (by decide +kernel)]
        refine ⟨_,SqT.of ha,_,(show atI _ ((0:Nat):Int) = _ from atI_nat rfl),rfl,?_⟩
        rw [if_pos rfl]
        refine tcomp_tupW (K:=K) (fun p1 H1=>Same H H1 ∧ H1 p1 = some (.tup xs)) (fun R r=>?_) (fun p1 H1 ⟨s1,h1⟩=>?_)
        · and_intros
          refine ⟨_,SqT.of ha,fun h=>absurd h no_whole,fun _ p hp=>?_⟩
          rw [cut1]
          exact ⟨⟨_,SqT.of upd_same⟩,r _ _ ⟨Same.put hp,upd_same⟩⟩
        refine tcomp_tup (K:=K) (a:=p1) (xs:=xs) (H1:=H1) (fun R r=>r) (fun i ys H'=>Same H H' ∧ H' p1 = some (.tup xs) ∧ FtsAt ad H' ys (ps.take i)) ⟨s1,h1,by rw [List.take_zero]; unfold FtsAt; trivial⟩ (fun i ys H' _ ⟨_,h,_⟩=>SqT.of h) ?_ ?_
        · rintro i x ys H' R hx ⟨s2,h2,hf⟩ hR
          simp only [tYes]
          and_intros
          obtain ⟨pm,hpm,hx'⟩:=hts.get hx
          have hmem:=List.mem_of_getElem? hpm
          have:=dpL_mem hmem
          have ly:ys.length ≤ 10:=by rw [hf.length,List.length_take]; omega
          refine ⟨x,pm,rfl,hx'.same s2,okL_mem ok.2 hmem,by omega,fun u H3 s3 f3=>⟨small1000 (by omega),hR _ _ ⟨s2.trans s3,s3 _ _ h2,?_⟩⟩⟩
          rw [List.take_add_one,hpm]
          exact (hf.same s3).snoc f3
        · rintro ys H' ⟨s2,h2,hf⟩
          rw [hts.length,List.take_length] at hf
          refine ⟨Nat.le_of_lt (small1000 (by rw [hf.length]; omega)),fun L hL=>?_⟩
          have sL:=Same.put (o:=.lst ys) hL
          have fL:(upd H' L (.lst ys)) L = some (.lst ys):=upd_same
          generalize (upd H' L (.lst ys)) = H3 at sL fL ⊢
          refine fun z dx hz hdx hne=>⟨z,dx,L,true,ys,rfl,upd_same,SqL.of ((mkSame hz hdx hne) _ _ fL),fun t ht=>⟨rfl,?_⟩⟩
          have sM:=mkSame2 (o:=.tup ys) (o':=.ins (clsJ ad true) dx [("parts",.ref t)]) hz hdx hne ht
          have tz:t ≠ z:=fun e=>by rw [e,upd_same] at ht; cases ht
          exact k (.ref z) _ ((s2.trans sL).trans sM) (by unfold FtAt; exact ⟨z,dx,t,ys,rfl,upd_same,by rw [upd_ne tz]; exact upd_same,hf.same (sL.trans sM)⟩)
      | false =>
        have ha:H a = some (.tup (.str "any" :: xs)):=ha
        and_intros
        refine ⟨_,SqT.of ha,_,(show atI _ ((0:Nat):Int) = _ from atI_nat rfl),rfl,?_⟩
        rw [if_neg (by decide +kernel)]
        refine ⟨_,SqT.of ha,_,(show atI _ ((0:Nat):Int) = _ from atI_nat rfl),rfl,?_⟩
        rw [if_neg (by decide +kernel)]
        refine ⟨_,SqT.of ha,_,(show atI _ ((0:Nat):Int) = _ from atI_nat rfl),rfl,?_⟩
        rw [if_neg (by decide +kernel)]
        refine ⟨_,SqT.of ha,_,(show atI _ ((0:Nat):Int) = _ from atI_nat rfl),rfl,?_⟩
        rw [if_neg (by decide +kernel)]
        refine ⟨_,SqT.of ha,_,(show atI _ ((0:Nat):Int) = _ from atI_nat rfl),rfl,?_⟩
        rw [if_neg (by decide +kernel)]
        refine ⟨_,SqT.of ha,_,(show atI _ ((0:Nat):Int) = _ from atI_nat rfl),rfl,?_⟩
        rw [if_neg (by decide +kernel)]
        refine ⟨_,SqT.of ha,_,(show atI _ ((0:Nat):Int) = _ from atI_nat rfl),rfl,?_⟩
        rw [if_neg (by decide +kernel)]
        refine tcomp_tupW (K:=K) (fun p1 H1=>Same H H1 ∧ H1 p1 = some (.tup xs)) (fun R r=>?_) (fun p1 H1 ⟨s1,h1⟩=>?_)
        · and_intros
          refine ⟨_,SqT.of ha,fun h=>absurd h no_whole,fun _ p hp=>?_⟩
          rw [cut1]
          exact ⟨⟨_,SqT.of upd_same⟩,r _ _ ⟨Same.put hp,upd_same⟩⟩
        refine tcomp_tup (K:=K) (a:=p1) (xs:=xs) (H1:=H1) (fun R r=>r) (fun i ys H'=>Same H H' ∧ H' p1 = some (.tup xs) ∧ FtsAt ad H' ys (ps.take i)) ⟨s1,h1,by rw [List.take_zero]; unfold FtsAt; trivial⟩ (fun i ys H' _ ⟨_,h,_⟩=>SqT.of h) ?_ ?_
        · rintro i x ys H' R hx ⟨s2,h2,hf⟩ hR
          simp only [tYes]
          and_intros
          obtain ⟨pm,hpm,hx'⟩:=hts.get hx
          have hmem:=List.mem_of_getElem? hpm
          have:=dpL_mem hmem
          have ly:ys.length ≤ 10:=by rw [hf.length,List.length_take]; omega
          refine ⟨x,pm,rfl,hx'.same s2,okL_mem ok.2 hmem,by omega,fun u H3 s3 f3=>⟨small1000 (by omega),hR _ _ ⟨s2.trans s3,s3 _ _ h2,?_⟩⟩⟩
          rw [List.take_add_one,hpm]
          exact (hf.same s3).snoc f3
        · rintro ys H' ⟨s2,h2,hf⟩
          rw [hts.length,List.take_length] at hf
          refine ⟨Nat.le_of_lt (small1000 (by rw [hf.length]; omega)),fun L hL=>?_⟩
          have sL:=Same.put (o:=.lst ys) hL
          have fL:(upd H' L (.lst ys)) L = some (.lst ys):=upd_same
          generalize (upd H' L (.lst ys)) = H3 at sL fL ⊢
          refine fun z dx hz hdx hne=>⟨z,dx,L,false,ys,rfl,upd_same,SqL.of ((mkSame hz hdx hne) _ _ fL),fun t ht=>⟨rfl,?_⟩⟩
          have sM:=mkSame2 (o:=.tup ys) (o':=.ins (clsJ ad false) dx [("parts",.ref t)]) hz hdx hne ht
          have tz:t ≠ z:=fun e=>by rw [e,upd_same] at ht; cases ht
          exact k (.ref z) _ ((s2.trans sL).trans sM) (by unfold FtAt; exact ⟨z,dx,t,ys,rfl,upd_same,by rw [upd_ne tz]; exact upd_same,hf.same (sL.trans sM)⟩)
theorem ok__law_whole_term {f:Addr} {fd:FuncData} {n:Nat} (D:Def K mg "_law_whole_term" s__law_whole_term ["_law_kind","_law_data_here","_law_term_here"] f fd) (T:Txt K mg ad) {f__law_fault:Addr} {fd__law_fault:FuncData} (G__law_fault:FnOk P w K mg base CX0 13 f__law_fault fd__law_fault ["_law_term_here"] (sp__law_fault ad 10)) {f_Has_holds:Addr} {fd_Has_holds:FuncData} (G_Has_holds:FnOk P w K mg base CX0 2 f_Has_holds fd_Has_holds ["self","thing"] (sp_Has_holds ad)) {f__law_thing:Addr} {fd__law_thing:FuncData} (G__law_thing:FnOk P w K mg base CX0 6 f__law_thing fd__law_thing ["_law_kind","_law_data_here"] (sp__law_thing ad)) {f_Many_holds:Addr} {fd_Many_holds:FuncData} (G_Many_holds:FnOk P w K mg base CX0 2 f_Many_holds fd_Many_holds ["self","thing"] (sp_Many_holds ad)) {f_Before_holds:Addr} {fd_Before_holds:FuncData} (G_Before_holds:FnOk P w K mg base CX0 3 f_Before_holds fd_Before_holds ["self","thing"] (sp_Before_holds ad)) {f_Under_holds:Addr} {fd_Under_holds:FuncData} (G_Under_holds:FnOk P w K mg base CX0 4 f_Under_holds fd_Under_holds ["self","thing"] (sp_Under_holds ad)) {f_Beside_holds:Addr} {fd_Beside_holds:FuncData} (G_Beside_holds:FnOk P w K mg base CX0 4 f_Beside_holds fd_Beside_holds ["self","thing"] (sp_Beside_holds ad)) {f_All_holds:Addr} {fd_All_holds:FuncData} (G_All_holds:FnOk P w K mg base CX0 15 f_All_holds fd_All_holds ["self","thing"] (sp_All_holds ad 10)) {f_Any_holds:Addr} {fd_Any_holds:FuncData} (G_Any_holds:FnOk P w K mg base CX0 15 f_Any_holds fd_Any_holds ["self","thing"] (sp_Any_holds ad 10)) {f_Not_holds:Addr} {fd_Not_holds:FuncData} (G_Not_holds:FnOk P w K mg base CX0 15 f_Not_holds fd_Not_holds ["self","thing"] (sp_Not_holds ad 10)) {f__law_holds:Addr} {fd__law_holds:FuncData} (G__law_holds:FnOk P w K mg base CX0 13 f__law_holds fd__law_holds ["_law_kind","_law_data_here","_law_term_here"] (sp__law_holds 10)) {f__law_whole_term:Addr} {fd__law_whole_term:FuncData} (G__law_whole_term:FnOk P w K mg base CX0 (n + 16) f__law_whole_term fd__law_whole_term ["_law_kind","_law_data_here","_law_term_here"] (sp__law_whole_term n)) (D__law_fault:Def K mg "_law_fault" s__law_fault ["_law_term_here"] f__law_fault fd__law_fault) (D__law_thing:Def K mg "_law_thing" s__law_thing ["_law_kind","_law_data_here"] f__law_thing fd__law_thing) (D__law_holds:Def K mg "_law_holds" s__law_holds ["_law_kind","_law_data_here","_law_term_here"] f__law_holds fd__law_holds) (D__law_whole_term:Def K mg "_law_whole_term" s__law_whole_term ["_law_kind","_law_data_here","_law_term_here"] f__law_whole_term fd__law_whole_term) (B_Has_holds:Binds K fd_Has_holds ["self","thing"] []) (B_Many_holds:Binds K fd_Many_holds ["self","thing"] []) (B_Before_holds:Binds K fd_Before_holds ["self","thing"] []) (B_Under_holds:Binds K fd_Under_holds ["self","thing"] []) (B_Beside_holds:Binds K fd_Beside_holds ["self","thing"] []) (B_All_holds:Binds K fd_All_holds ["self","thing"] []) (B_Any_holds:Binds K fd_Any_holds ["self","thing"] []) (B_Not_holds:Binds K fd_Not_holds ["self","thing"] []) (ME_Has_holds:Meth K ad.Has "holds" f_Has_holds) (ME_Many_holds:Meth K ad.Many "holds" f_Many_holds) (ME_Before_holds:Meth K ad.Before "holds" f_Before_holds) (ME_Under_holds:Meth K ad.Under "holds" f_Under_holds) (ME_Beside_holds:Meth K ad.Beside "holds" f_Beside_holds) (ME_All_holds:Meth K ad.All "holds" f_All_holds) (ME_Any_holds:Meth K ad.Any "holds" f_Any_holds) (ME_Not_holds:Meth K ad.Not "holds" f_Not_holds):FnOk P w K mg base CX0 (n + 1 + 16) f fd ["_law_kind","_law_data_here","_law_term_here"] (sp__law_whole_term (n + 1)):=by
  refine D.F.ok sc__law_whole_term (fun vs H Q E h=>?_) (fun cdv A outer s H vs Q E hr h=>?_)
  · obtain ⟨l,d,v,tm,rfl,_⟩:=h
    rfl
  · obtain ⟨l,d,v,tm,rfl,hd,dO,ht,ok,dp,dp10,k⟩:=h
    refine ⟨_,(@pss_cons _ _ _ _ _ (ps_set (i:=3) sc__law_whole_term.nd rfl (Or.inl rfl) (pe_either (pe_either (pe_either (pe_either (pe_either (pe_either (pe_either (pe_meth (pe_call G__law_fault (hr.mono (by omega)) rfl D__law_fault.mg D__law_fault.F.kp D__law_fault.b .nil pass0 (pa_cons (pv 2) pa_nil)) T.cl_Has ME_Has_holds G_Has_holds (hr.mono (by omega)) B_Has_holds .nil pass0 (pa_cons (pe_call G__law_thing (hr.mono (by omega)) rfl D__law_thing.mg D__law_thing.F.kp D__law_thing.b .nil pass0 (pa_cons (pv 0) (pa_cons (pv 1) pa_nil))) pa_nil)) (pe_meth (pe_call G__law_fault (hr.mono (by omega)) rfl D__law_fault.mg D__law_fault.F.kp D__law_fault.b .nil pass0 (pa_cons (pv 2) pa_nil)) T.cl_Many ME_Many_holds G_Many_holds (hr.mono (by omega)) B_Many_holds .nil pass0 (pa_cons (pe_call G__law_thing (hr.mono (by omega)) rfl D__law_thing.mg D__law_thing.F.kp D__law_thing.b .nil pass0 (pa_cons (pv 0) (pa_cons (pv 1) pa_nil))) pa_nil))) (pe_meth (pe_call G__law_fault (hr.mono (by omega)) rfl D__law_fault.mg D__law_fault.F.kp D__law_fault.b .nil pass0 (pa_cons (pv 2) pa_nil)) T.cl_Before ME_Before_holds G_Before_holds (hr.mono (by omega)) B_Before_holds .nil pass0 (pa_cons (pe_call G__law_thing (hr.mono (by omega)) rfl D__law_thing.mg D__law_thing.F.kp D__law_thing.b .nil pass0 (pa_cons (pv 0) (pa_cons (pv 1) pa_nil))) pa_nil))) (pe_meth (pe_call G__law_fault (hr.mono (by omega)) rfl D__law_fault.mg D__law_fault.F.kp D__law_fault.b .nil pass0 (pa_cons (pv 2) pa_nil)) T.cl_Under ME_Under_holds G_Under_holds (hr.mono (by omega)) B_Under_holds .nil pass0 (pa_cons (pe_call G__law_thing (hr.mono (by omega)) rfl D__law_thing.mg D__law_thing.F.kp D__law_thing.b .nil pass0 (pa_cons (pv 0) (pa_cons (pv 1) pa_nil))) pa_nil))) (pe_meth (pe_call G__law_fault (hr.mono (by omega)) rfl D__law_fault.mg D__law_fault.F.kp D__law_fault.b .nil pass0 (pa_cons (pv 2) pa_nil)) T.cl_Beside ME_Beside_holds G_Beside_holds (hr.mono (by omega)) B_Beside_holds .nil pass0 (pa_cons (pe_call G__law_thing (hr.mono (by omega)) rfl D__law_thing.mg D__law_thing.F.kp D__law_thing.b .nil pass0 (pa_cons (pv 0) (pa_cons (pv 1) pa_nil))) pa_nil))) (pe_meth (pe_call G__law_fault (hr.mono (by omega)) rfl D__law_fault.mg D__law_fault.F.kp D__law_fault.b .nil pass0 (pa_cons (pv 2) pa_nil)) T.cl_All ME_All_holds G_All_holds (hr.mono (by omega)) B_All_holds .nil pass0 (pa_cons (pe_call G__law_thing (hr.mono (by omega)) rfl D__law_thing.mg D__law_thing.F.kp D__law_thing.b .nil pass0 (pa_cons (pv 0) (pa_cons (pv 1) pa_nil))) pa_nil))) (pe_meth (pe_call G__law_fault (hr.mono (by omega)) rfl D__law_fault.mg D__law_fault.F.kp D__law_fault.b .nil pass0 (pa_cons (pv 2) pa_nil)) T.cl_Any ME_Any_holds G_Any_holds (hr.mono (by omega)) B_Any_holds .nil pass0 (pa_cons (pe_call G__law_thing (hr.mono (by omega)) rfl D__law_thing.mg D__law_thing.F.kp D__law_thing.b .nil pass0 (pa_cons (pv 0) (pa_cons (pv 1) pa_nil))) pa_nil))) (pe_meth (pe_call G__law_fault (hr.mono (by omega)) rfl D__law_fault.mg D__law_fault.F.kp D__law_fault.b .nil pass0 (pa_cons (pv 2) pa_nil)) T.cl_Not ME_Not_holds G_Not_holds (hr.mono (by omega)) B_Not_holds .nil pass0 (pa_cons (pe_call G__law_thing (hr.mono (by omega)) rfl D__law_thing.mg D__law_thing.F.kp D__law_thing.b .nil pass0 (pa_cons (pv 0) (pa_cons (pv 1) pa_nil))) pa_nil))))
      (@pss_cons _ _ _ _ _ (ps_if (PW.pt (pw_or (pt_not (pt_val (pe_callB call_isiT rfl T.isinstance PyProof.Rows.boot_isinstance (pa_cons (pv 3) (pa_cons (pe_ty rfl T.bool PyProof.Rows.boot_bool) pa_nil))))) (pw_or1 (pt_cmpR op_ne (pv 3) (pe_call G__law_holds (hr.mono (by omega)) rfl D__law_holds.mg D__law_holds.F.kp D__law_holds.b .nil pass0 (pa_cons (pv 0) (pa_cons (pv 1) (pa_cons (pv 2) pa_nil)))) (nomark _)))))
      (@pss_one _ _ _ (ps_ret pe_bl))
      pss_nil)
      (@pss_cons _ _ _ _ _ (ps_if (pt_cmpR op_notIn_seq (pe_ix ix_tup (pv 2) pe_int (fun _ _=>rfl)) (pe_tup (pa_cons pe_str (pa_cons pe_str (pa_cons pe_str pa_nil)))) rfl)
      (@pss_one _ _ _ (ps_ret pe_bl))
      pss_nil)
      (@pss_one _ _ _ (ps_ret (pe_callB (call_all rfl) rfl T.all (by decide +kernel) (pa_cons (pe_comp (own:=["_law_part"]) (cap:=["_law_kind","_law_data_here"]) (ix:=[0,1]) rfl (show CompScope ["_law_kind","_law_data_here","_law_term_here","_law_found"] (defScope s__law_whole_term) _ ["_law_part"] ["_law_kind","_law_data_here"] [0,1] from ⟨rfl,by decide +kernel,by decide +kernel,by decide +kernel,by decide +kernel,by decide +kernel,by decide +kernel,rfl,by decide +kernel⟩) (pi_tup (pe_slice sl_tupA (pv 2) (po_some pe_int) po_none)) (fun C s₀ H₀ ex pn=>⟨pg_name (i:=0) (show (["_law_part","_law_kind","_law_data_here"]:List Str).Nodup by decide +kernel) rfl (Or.inl rfl),pifs_nil,(pe_call G__law_whole_term (hr.mono (by omega)) rfl D__law_whole_term.mg D__law_whole_term.F.kp D__law_whole_term.b .nil pass0 (pa_cons (pv 1) (pa_cons (pv 2) (pa_cons (pv 0) pa_nil))))⟩)) pa_nil))))))),?_⟩
    refine tseq_open fun B hB=>?_
    and_intros
    refine ft_made ht ok dp10 hd dO (fun H1 s1=>?_)
    have hd1:=hd.same s1
    have ht1:=ht.same s1
    generalize eb:holdsT d tm = c
    subst hB
    refine tseq_open fun B hB=>?_
    and_intros
    obtain ⟨ty,ty1,_,_,kb⟩:=(Thg.bl (H:=H1) c).ty (K:=K)
    refine ⟨ty,ty1,true,kb,?_⟩
    rw [if_neg (by decide)]
    refine ⟨l,d,v,tm,rfl,hd1,dO,ht1,ok,dp10,fun H2 s2=>?_⟩
    rw [eb]
    refine ⟨rfl,?_⟩
    rw [if_neg (fun h=>h rfl)]
    have s12:=s1.trans s2
    have hd2:=hd1.same s2
    have ht2:=ht1.same s2
    subst hB
    refine tseq_open fun B hB=>?_
    have go:∀ (a:Addr) (xs:List V) (ps:List Tm) (w0:V) (H3:Hp),v = .ref a → Same H H3 → H3 a = some (.tup (w0 :: xs)) → TmsAt H3 xs ps → (∀ pm ∈ ps,okT pm) → (∀ pm ∈ ps,dpT pm < n ∧ dpT pm < 10) → ps.length ≤ 10 → B ({ nx:=fun _ H'=>Q .non H',rt:=Q }:Ends) [some (.int (kindN d)),some (.ref l),some v,some (.bl c)] H3:=fun a xs ps w0 H3 ev s3 ha hts hok hdp hl=>by
      subst hB
      rw [ev]
      and_intros
      refine tcomp_tupW (K:=K) (fun p1 H1=>Same H3 H1 ∧ H1 p1 = some (.tup xs)) (fun R r=>?_) (fun p1 H1 ⟨s1,h1⟩=>?_)
      · and_intros
        refine ⟨_,SqT.of ha,fun h=>absurd h no_whole,fun _ p hp=>?_⟩
        rw [cut1]
        exact ⟨⟨_,SqT.of upd_same⟩,r _ _ ⟨Same.put hp,upd_same⟩⟩
      refine tcomp_tup (K:=K) (a:=p1) (xs:=xs) (H1:=H1) (fun R r=>r) (fun i ys H'=>Same H3 H' ∧ H' p1 = some (.tup xs) ∧ ys = (List.replicate i true).map V.bl) ⟨s1,h1,rfl⟩ (fun i ys H' _ ⟨_,h,_⟩=>SqT.of h) ?_ ?_
      · rintro i x ys H' R hx ⟨s2,h2,rfl⟩ hR
        simp only [tYes]
        and_intros
        obtain ⟨pm,hpm,hx'⟩:=hts.get hx
        have hmem:=List.mem_of_getElem? hpm
        have hi:=(List.getElem?_eq_some_iff.mp hpm).1
        refine ⟨l,d,x,pm,rfl,hd.same (s3.trans s2),dO,hx'.same s2,hok pm hmem,(hdp pm hmem).1,(hdp pm hmem).2,fun H4 s4=>⟨small1000 (by rw [List.length_map,List.length_replicate]; omega),hR _ _ ⟨s2.trans s4,s4 _ _ h2,?_⟩⟩⟩
        rw [List.replicate_succ',List.map_append]
        rfl
      · rintro ys H' ⟨s2,h2,rfl⟩
        have lx:=hts.length
        refine ⟨Nat.le_of_lt (small1000 (by rw [List.length_map,List.length_replicate]; omega)),fun L hL=>⟨L,rfl,_,SqL.of upd_same,?_⟩⟩
        rw [show (List.replicate xs.length true).all id = true from List.all_eq_true.mpr fun b hb=>(List.mem_replicate.mp hb).2]
        exact k _ ((s3.trans s2).upd hL)
    and_intros
    cases tm with
    | has m =>
      unfold TmAt at ht2
      obtain ⟨a,rfl,ha⟩:=ht2
      refine ⟨a,rfl,_,SqT.of ha,_,rfl,by decide,fun t h3=>⟨t,_,rfl,.inr (SqT.of upd_same),rfl,rfl,true,congrArg V.bl (show (!inV (.str "has") [.str "all",.str "any",.str "not"]) = true by decide +kernel),?_⟩⟩
      rw [if_pos rfl]
      exact k _ (s12.upd h3)
    | many i m =>
      unfold TmAt at ht2
      obtain ⟨a,rfl,ha⟩:=ht2
      refine ⟨a,rfl,_,SqT.of ha,_,rfl,by decide,fun t h3=>⟨t,_,rfl,.inr (SqT.of upd_same),rfl,rfl,true,congrArg V.bl (show (!inV (.str "many") [.str "all",.str "any",.str "not"]) = true by decide +kernel),?_⟩⟩
      rw [if_pos rfl]
      exact k _ (s12.upd h3)
    | pair w x y =>
      unfold TmAt at ht2
      obtain ⟨a,rfl,ha⟩:=ht2
      unfold okT at ok
      rcases ok.1 with rfl | rfl | rfl
      · refine ⟨a,rfl,_,SqT.of ha,_,rfl,by decide,fun t h3=>⟨t,_,rfl,.inr (SqT.of upd_same),rfl,rfl,true,congrArg V.bl (show (!inV (.str "before") [.str "all",.str "any",.str "not"]) = true by decide +kernel),?_⟩⟩
        rw [if_pos rfl]
        exact k _ (s12.upd h3)
      · refine ⟨a,rfl,_,SqT.of ha,_,rfl,by decide,fun t h3=>⟨t,_,rfl,.inr (SqT.of upd_same),rfl,rfl,true,congrArg V.bl (show (!inV (.str "under") [.str "all",.str "any",.str "not"]) = true by decide +kernel),?_⟩⟩
        rw [if_pos rfl]
        exact k _ (s12.upd h3)
      · refine ⟨a,rfl,_,SqT.of ha,_,rfl,by decide,fun t h3=>⟨t,_,rfl,.inr (SqT.of upd_same),rfl,rfl,true,congrArg V.bl (show (!inV (.str "beside") [.str "all",.str "any",.str "not"]) = true by decide +kernel),?_⟩⟩
        rw [if_pos rfl]
        exact k _ (s12.upd h3)
    | not p =>
      unfold TmAt at ht2
      obtain ⟨a,x,rfl,ha,hx⟩:=ht2
      unfold okT at ok
      unfold dpT at dp dp10
      refine ⟨a,rfl,_,SqT.of ha,_,rfl,by decide,fun t h3=>⟨t,_,rfl,.inr (SqT.of upd_same),rfl,rfl,false,congrArg V.bl (show (!inV (.str "not") [.str "all",.str "any",.str "not"]) = false by decide +kernel),?_⟩⟩
      rw [if_neg (by decide)]
      refine go a [x] [p] _ _ rfl (s12.upd h3) ((Same.put h3) _ _ ha) (by unfold TmsAt; exact ⟨hx.same (Same.put h3),by unfold TmsAt; trivial⟩) (fun pm hm=>?_) (fun pm hm=>?_) (show 1 ≤ 10 by decide)
      · rw [List.mem_singleton.mp hm]; exact ok
      · rw [List.mem_singleton.mp hm]; exact ⟨by omega,by omega⟩
    | joint b ps =>
      unfold TmAt at ht2
      obtain ⟨a,xs,rfl,ha,hts⟩:=ht2
      unfold okT at ok
      unfold dpT at dp dp10
      have hok:∀ pm ∈ ps,okT pm:=fun pm hm=>okL_mem ok.2 hm
      have hdp:∀ pm ∈ ps,dpT pm < n ∧ dpT pm < 10:=fun pm hm=>by
        have:=dpL_mem hm
        omega
      have hl:=ok.1
      cases b with
      | true =>
        have ha:H2 a = some (.tup (.str "all" :: xs)):=ha
        refine ⟨a,rfl,_,SqT.of ha,_,(show atI _ ((0:Nat):Int) = _ from atI_nat rfl),by decide,fun t h3=>⟨t,_,rfl,.inr (SqT.of upd_same),rfl,rfl,false,congrArg V.bl (show (!inV (.str "all") [.str "all",.str "any",.str "not"]) = false by decide +kernel),?_⟩⟩
        rw [if_neg (by decide)]
        exact go a xs ps _ _ rfl (s12.upd h3) ((Same.put h3) _ _ ha) (hts.same (Same.put h3)) hok hdp hl
      | false =>
        have ha:H2 a = some (.tup (.str "any" :: xs)):=ha
        refine ⟨a,rfl,_,SqT.of ha,_,(show atI _ ((0:Nat):Int) = _ from atI_nat rfl),by decide,fun t h3=>⟨t,_,rfl,.inr (SqT.of upd_same),rfl,rfl,false,congrArg V.bl (show (!inV (.str "any") [.str "all",.str "any",.str "not"]) = false by decide +kernel),?_⟩⟩
        rw [if_neg (by decide)]
        exact go a xs ps _ _ rfl (s12.upd h3) ((Same.put h3) _ _ ha) (hts.same (Same.put h3)) hok hdp hl
theorem ok_law {f:Addr} {fd:FuncData} (D:Def K mg "law" s_law ["_law_script"] f fd) (T:Txt K mg ad) {f__law_cell_at:Addr} {fd__law_cell_at:FuncData} (G__law_cell_at:FnOk P w K mg base CX0 1 f__law_cell_at fd__law_cell_at ["_law_script","_law_k"] (sp__law_cell_at K)) {f__law_names:Addr} {fd__law_names:FuncData} (G__law_names:FnOk P w K mg base CX0 1 f__law_names fd__law_names ["_law_cell","_law_many"] sp__law_names) {f__law_data:Addr} {fd__law_data:FuncData} (G__law_data:FnOk P w K mg base CX0 2 f__law_data fd__law_data ["_law_script","_law_begin","_law_kind","_law_many","_law_names_here"] (sp__law_data K)) {f__law_term:Addr} {fd__law_term:FuncData} (G__law_term:FnOk P w K mg base CX0 2 f__law_term fd__law_term ["_law_script","_law_begin","_law_many","_law_names_here"] (sp__law_term K)) {f__law_whole_term:Addr} {fd__law_whole_term:FuncData} (G__law_whole_term:FnOk P w K mg base CX0 26 f__law_whole_term fd__law_whole_term ["_law_kind","_law_data_here","_law_term_here"] (sp__law_whole_term 10)) (D__law_cell_at:Def K mg "_law_cell_at" s__law_cell_at ["_law_script","_law_k"] f__law_cell_at fd__law_cell_at) (D__law_names:Def K mg "_law_names" s__law_names ["_law_cell","_law_many"] f__law_names fd__law_names) (D__law_data:Def K mg "_law_data" s__law_data ["_law_script","_law_begin","_law_kind","_law_many","_law_names_here"] f__law_data fd__law_data) (D__law_term:Def K mg "_law_term" s__law_term ["_law_script","_law_begin","_law_many","_law_names_here"] f__law_term fd__law_term) (D__law_whole_term:Def K mg "_law_whole_term" s__law_whole_term ["_law_kind","_law_data_here","_law_term_here"] f__law_whole_term fd__law_whole_term):FnOk P w K mg base CX0 27 f fd ["_law_script"] (sp_law K):=by
  refine D.F.ok sc_law (fun vs H Q E h=>?_) (fun cdv A outer s H vs Q E hr h=>?_)
  · obtain ⟨a,ns,rfl,_⟩:=h
    rfl
  · obtain ⟨a,ns,rfl,hS,hn,k⟩:=h
    refine ⟨_,(@pss_cons _ _ _ _ _ (ps_set (i:=1) sc_law.nd rfl (Or.inl rfl) (pe_call G__law_cell_at (hr.mono (by decide)) rfl D__law_cell_at.mg D__law_cell_at.F.kp D__law_cell_at.b .nil pass0 (pa_cons (pv 0) (pa_cons pe_int pa_nil))))
      (@pss_cons _ _ _ _ _ (ps_set (i:=2) sc_law.nd rfl (Or.inl rfl) (pe_call G__law_names (hr.mono (by decide)) rfl D__law_names.mg D__law_names.F.kp D__law_names.b .nil pass0 (pa_cons (pe_call G__law_cell_at (hr.mono (by decide)) rfl D__law_cell_at.mg D__law_cell_at.F.kp D__law_cell_at.b .nil pass0 (pa_cons (pv 0) (pa_cons pe_int pa_nil))) (pa_cons pe_int pa_nil))))
      (@pss_cons _ _ _ _ _ (ps_set (i:=3) sc_law.nd rfl (Or.inl rfl) (pe_op op_mod (pv 1) pe_int))
      (@pss_cons _ _ _ _ _ (ps_set (i:=4) sc_law.nd rfl (Or.inl rfl) (pe_call G__law_data (hr.mono (by decide)) rfl D__law_data.mg D__law_data.F.kp D__law_data.b .nil pass0 (pa_cons (pv 0) (pa_cons pe_int (pa_cons (pv 3) (pa_cons (pe_op op_mod (pe_op op_fdiv (pv 1) pe_int) pe_int) (pa_cons (pe_slice sl_list (pv 2) po_none (po_some (pe_op op_add pe_int (pe_op op_mod (pe_op op_add (pe_op op_fdiv (pv 1) pe_int) (pv 1)) pe_int)))) pa_nil)))))))
      (@pss_cons _ _ _ _ _ (ps_set (i:=5) sc_law.nd rfl (Or.inl rfl) (pe_call G__law_term (hr.mono (by decide)) rfl D__law_term.mg D__law_term.F.kp D__law_term.b .nil pass0 (pa_cons (pv 0) (pa_cons pe_int (pa_cons (pe_op op_add pe_int (pe_op op_mod (pe_call G__law_cell_at (hr.mono (by decide)) rfl D__law_cell_at.mg D__law_cell_at.F.kp D__law_cell_at.b .nil pass0 (pa_cons (pv 0) (pa_cons pe_int pa_nil))) pe_int)) (pa_cons (pv 2) pa_nil))))))
      (@pss_one _ _ _ (ps_ret (pe_call G__law_whole_term (hr.mono (by decide)) rfl D__law_whole_term.mg D__law_whole_term.F.kp D__law_whole_term.b .nil pass0 (pa_cons (pv 3) (pa_cons (pv 4) (pa_cons (pv 5) pa_nil))))))))))),?_⟩
    refine tseq_open fun B hB=>?_
    and_intros
    refine ⟨a,ns,0,rfl,hS,fun c=>?_⟩
    subst hB
    refine tseq_open fun B hB=>?_
    and_intros
    refine ⟨a,ns,1,rfl,hS,fun c1=>⟨c1,11,rfl,by decide,fun zs nl H1 lzs hz s1 h1=>?_⟩⟩
    subst hB
    refine tseq_open fun B hB=>?_
    and_intros
    have k0:=Int.emod_nonneg c (show (3:Int) ≠ 0 by decide)
    have k3:=Int.emod_lt_of_pos c (show (0:Int) < 3 by decide)
    generalize c % 3 = kd at k0 k3 ⊢
    subst hB
    refine tseq_open fun B hB=>?_
    and_intros
    obtain ⟨m,em⟩:=Int.eq_ofNat_of_zero_le (Int.emod_nonneg (c / 3) (show (13:Int) ≠ 0 by decide))
    have m13:=Int.emod_lt_of_pos (c / 3) (show (0:Int) < 13 by decide)
    obtain ⟨r,er⟩:=Int.eq_ofNat_of_zero_le (Int.emod_nonneg (c / 39 + c) (show (9:Int) ≠ 0 by decide))
    have r9:=Int.emod_lt_of_pos (c / 39 + c) (show (0:Int) < 9 by decide)
    rw [em,er]
    refine ⟨_,SqL.of h1,fun p hp=>?_⟩
    rw [cut_toP (j:=2 + r) (by omega) (by rw [List.length_map]; omega),← List.map_take]
    have s2:=Same.put (o:=.lst ((zs.take (2 + r)).map V.str)) hp
    have f2:(upd H1 p (.lst ((zs.take (2 + r)).map V.str))) p = some (.lst ((zs.take (2 + r)).map V.str)):=upd_same
    generalize (upd H1 p (.lst ((zs.take (2 + r)).map V.str))) = H2 at s2 f2 ⊢
    have s12:=s1.trans s2
    refine ⟨a,p,ns,10,m,kd,zs.take (2 + r),rfl,hS.same s12,by omega,k0,k3,f2,by rw [List.length_take]; omega,by rw [List.length_take]; omega,fun z hz'=>hz z (List.mem_of_mem_take hz'),fun l d H3 s3 hd ekd dO=>?_⟩
    subst ekd
    have s13:=s12.trans s3
    subst hB
    refine tseq_open fun B hB=>?_
    and_intros
    refine ⟨a,ns,2,rfl,hS.same s13,fun c2=>⟨c2,rfl,?_⟩⟩
    obtain ⟨m2,em2⟩:=Int.eq_ofNat_of_zero_le (show 0 ≤ 1 + c2 % 7 by have:=Int.emod_nonneg c2 (show (7:Int) ≠ 0 by decide); omega)
    have q7:=Int.emod_lt_of_pos c2 (show (0:Int) < 7 by decide)
    have q0:=Int.emod_nonneg c2 (show (7:Int) ≠ 0 by decide)
    rw [em2]
    refine ⟨a,nl,ns,3,m2,zs,rfl,hS.same s13,by omega,by omega,s3 _ _ (s2 _ _ h1),by omega,by omega,hz,fun v tm H4 s4 ht ok dp=>?_⟩
    subst hB
    and_intros
    exact ⟨l,d,v,tm,rfl,hd.same s4,dO,ht,ok,dp,dp,fun H5 _=>k H5⟩
end
theorem all_mk {l:PySem.W.OpenLaw} {w:World} {K:PySem.W.Frag} {h:Heap} {mg:Str → Option Value} {fa C_Fault C_Has C_Many C_Pair C_Before C_Under C_Beside C_Joint C_All C_Any C_Not C_ShrinkError C_NoThing C_Thing C_Row C_Forest C_Table f_Has_init f_Has_holds f_Many_init f_Many_holds f_Pair_init f_Before_holds f_Under_holds f_Beside_holds f_Joint_init f_All_holds f_Any_holds f_Not_init f_Not_holds f_is_whole f_is_mark f_check_list f_check_marks f_check_node f_check_nodes f_check_lines f_marks_at f_places_of f_stands_ahead f_stands_right_ahead f_Thing_init f_Thing_many_of f_Thing_is_before f_Row_init f_Row_is_under f_Row_is_beside f_Forest_init f_Forest_many f_Forest_standing f_Forest_is_under f_Forest_is_beside f_Forest_hanging f_Table_init f_Table_is_under f_Table_is_beside f__law_cell_at f__law_names f__law_data f__law_thing f__law_spots f__law_next_deep f__law_pairs f__law_holds f__law_leaf f__law_term f__law_fault f__law_whole_term f_law:Addr} (X:K.In h) (G:h.Ns mainGlobals mg) (hfa:mg "law" = some (.ref fa))
    {od_Has_init an_Has_init od_Has_holds an_Has_holds od_Many_init an_Many_init od_Many_holds an_Many_holds od_Pair_init an_Pair_init od_Before_holds an_Before_holds od_Under_holds an_Under_holds od_Beside_holds an_Beside_holds od_Joint_init an_Joint_init od_All_holds an_All_holds od_Any_holds an_Any_holds od_Not_init an_Not_init od_Not_holds an_Not_holds od_is_whole an_is_whole od_is_mark an_is_mark od_check_list an_check_list od_check_marks an_check_marks od_check_node an_check_node od_check_nodes an_check_nodes od_check_lines an_check_lines od_marks_at an_marks_at od_places_of an_places_of od_stands_ahead an_stands_ahead od_stands_right_ahead an_stands_right_ahead od_Thing_init an_Thing_init od_Thing_many_of an_Thing_many_of od_Thing_is_before an_Thing_is_before od_Row_init an_Row_init od_Row_is_under an_Row_is_under od_Row_is_beside an_Row_is_beside od_Forest_init an_Forest_init od_Forest_many an_Forest_many od_Forest_standing an_Forest_standing od_Forest_is_under an_Forest_is_under od_Forest_is_beside an_Forest_is_beside od_Forest_hanging an_Forest_hanging od_Table_init an_Table_init od_Table_is_under an_Table_is_under od_Table_is_beside an_Table_is_beside od__law_cell_at an__law_cell_at od__law_names an__law_names od__law_data an__law_data od__law_thing an__law_thing od__law_spots an__law_spots od__law_next_deep an__law_next_deep od__law_pairs an__law_pairs od__law_holds an__law_holds od__law_leaf an__law_leaf od__law_term an__law_term od__law_fault an__law_fault od__law_whole_term an__law_whole_term od_law an_law:Option Addr} {sl_Has_init sl_Has_holds sl_Many_init sl_Many_holds sl_Pair_init sl_Before_holds sl_Under_holds sl_Beside_holds sl_Joint_init sl_All_holds sl_Any_holds sl_Not_init sl_Not_holds sl_is_whole sl_is_mark sl_check_list sl_check_marks sl_check_node sl_check_nodes sl_check_lines sl_marks_at sl_places_of sl_stands_ahead sl_stands_right_ahead sl_Thing_init sl_Thing_many_of sl_Thing_is_before sl_Row_init sl_Row_is_under sl_Row_is_beside sl_Forest_init sl_Forest_many sl_Forest_standing sl_Forest_is_under sl_Forest_is_beside sl_Forest_hanging sl_Table_init sl_Table_is_under sl_Table_is_beside sl__law_cell_at sl__law_names sl__law_data sl__law_thing sl__law_spots sl__law_next_deep sl__law_pairs sl__law_holds sl__law_leaf sl__law_term sl__law_fault sl__law_whole_term sl_law:Array (Option Value)} {oc_Has_init kV_Has_init dc_Has_init pm_Has_init cd_Has_init ct_Has_init oc_Has_holds kV_Has_holds dc_Has_holds pm_Has_holds cd_Has_holds ct_Has_holds oc_Many_init kV_Many_init dc_Many_init pm_Many_init cd_Many_init ct_Many_init oc_Many_holds kV_Many_holds dc_Many_holds pm_Many_holds cd_Many_holds ct_Many_holds oc_Pair_init kV_Pair_init dc_Pair_init pm_Pair_init cd_Pair_init ct_Pair_init oc_Before_holds kV_Before_holds dc_Before_holds pm_Before_holds cd_Before_holds ct_Before_holds oc_Under_holds kV_Under_holds dc_Under_holds pm_Under_holds cd_Under_holds ct_Under_holds oc_Beside_holds kV_Beside_holds dc_Beside_holds pm_Beside_holds cd_Beside_holds ct_Beside_holds oc_Joint_init kV_Joint_init dc_Joint_init pm_Joint_init cd_Joint_init ct_Joint_init oc_All_holds kV_All_holds dc_All_holds pm_All_holds cd_All_holds ct_All_holds oc_Any_holds kV_Any_holds dc_Any_holds pm_Any_holds cd_Any_holds ct_Any_holds oc_Not_init kV_Not_init dc_Not_init pm_Not_init cd_Not_init ct_Not_init oc_Not_holds kV_Not_holds dc_Not_holds pm_Not_holds cd_Not_holds ct_Not_holds oc_is_whole kV_is_whole dc_is_whole pm_is_whole cd_is_whole ct_is_whole oc_is_mark kV_is_mark dc_is_mark pm_is_mark cd_is_mark ct_is_mark oc_check_list kV_check_list dc_check_list pm_check_list cd_check_list ct_check_list oc_check_marks kV_check_marks dc_check_marks pm_check_marks cd_check_marks ct_check_marks oc_check_node kV_check_node dc_check_node pm_check_node cd_check_node ct_check_node oc_check_nodes kV_check_nodes dc_check_nodes pm_check_nodes cd_check_nodes ct_check_nodes oc_check_lines kV_check_lines dc_check_lines pm_check_lines cd_check_lines ct_check_lines oc_marks_at kV_marks_at dc_marks_at pm_marks_at cd_marks_at ct_marks_at oc_places_of kV_places_of dc_places_of pm_places_of cd_places_of ct_places_of oc_stands_ahead kV_stands_ahead dc_stands_ahead pm_stands_ahead cd_stands_ahead ct_stands_ahead oc_stands_right_ahead kV_stands_right_ahead dc_stands_right_ahead pm_stands_right_ahead cd_stands_right_ahead ct_stands_right_ahead oc_Thing_init kV_Thing_init dc_Thing_init pm_Thing_init cd_Thing_init ct_Thing_init oc_Thing_many_of kV_Thing_many_of dc_Thing_many_of pm_Thing_many_of cd_Thing_many_of ct_Thing_many_of oc_Thing_is_before kV_Thing_is_before dc_Thing_is_before pm_Thing_is_before cd_Thing_is_before ct_Thing_is_before oc_Row_init kV_Row_init dc_Row_init pm_Row_init cd_Row_init ct_Row_init oc_Row_is_under kV_Row_is_under dc_Row_is_under pm_Row_is_under cd_Row_is_under ct_Row_is_under oc_Row_is_beside kV_Row_is_beside dc_Row_is_beside pm_Row_is_beside cd_Row_is_beside ct_Row_is_beside oc_Forest_init kV_Forest_init dc_Forest_init pm_Forest_init cd_Forest_init ct_Forest_init oc_Forest_many kV_Forest_many dc_Forest_many pm_Forest_many cd_Forest_many ct_Forest_many oc_Forest_standing kV_Forest_standing dc_Forest_standing pm_Forest_standing cd_Forest_standing ct_Forest_standing oc_Forest_is_under kV_Forest_is_under dc_Forest_is_under pm_Forest_is_under cd_Forest_is_under ct_Forest_is_under oc_Forest_is_beside kV_Forest_is_beside dc_Forest_is_beside pm_Forest_is_beside cd_Forest_is_beside ct_Forest_is_beside oc_Forest_hanging kV_Forest_hanging dc_Forest_hanging pm_Forest_hanging cd_Forest_hanging ct_Forest_hanging oc_Table_init kV_Table_init dc_Table_init pm_Table_init cd_Table_init ct_Table_init oc_Table_is_under kV_Table_is_under dc_Table_is_under pm_Table_is_under cd_Table_is_under ct_Table_is_under oc_Table_is_beside kV_Table_is_beside dc_Table_is_beside pm_Table_is_beside cd_Table_is_beside ct_Table_is_beside oc__law_cell_at kV__law_cell_at dc__law_cell_at pm__law_cell_at cd__law_cell_at ct__law_cell_at oc__law_names kV__law_names dc__law_names pm__law_names cd__law_names ct__law_names oc__law_data kV__law_data dc__law_data pm__law_data cd__law_data ct__law_data oc__law_thing kV__law_thing dc__law_thing pm__law_thing cd__law_thing ct__law_thing oc__law_spots kV__law_spots dc__law_spots pm__law_spots cd__law_spots ct__law_spots oc__law_next_deep kV__law_next_deep dc__law_next_deep pm__law_next_deep cd__law_next_deep ct__law_next_deep oc__law_pairs kV__law_pairs dc__law_pairs pm__law_pairs cd__law_pairs ct__law_pairs oc__law_holds kV__law_holds dc__law_holds pm__law_holds cd__law_holds ct__law_holds oc__law_leaf kV__law_leaf dc__law_leaf pm__law_leaf cd__law_leaf ct__law_leaf oc__law_term kV__law_term dc__law_term pm__law_term cd__law_term ct__law_term oc__law_fault kV__law_fault dc__law_fault pm__law_fault cd__law_fault ct__law_fault oc__law_whole_term kV__law_whole_term dc__law_whole_term pm__law_whole_term cd__law_whole_term ct__law_whole_term oc_law kV_law dc_law pm_law cd_law ct_law:Value} {tk_LETTERS tk_LONGEST_MARK tk_MOST_IN_ROW tk_MOST_NODES tk_DEEPEST tk_MOST_LINES tk_MOST_COLUMNS:Tok} {cd_NoThing:ClassData}
    (a_Fault:PySem.W.nsIn K mainGlobals "Fault" = some (some (.ref C_Fault)))
    (a_Has:PySem.W.nsIn K mainGlobals "Has" = some (some (.ref C_Has)))
    (a_Many:PySem.W.nsIn K mainGlobals "Many" = some (some (.ref C_Many)))
    (a_Pair:PySem.W.nsIn K mainGlobals "Pair" = some (some (.ref C_Pair)))
    (a_Before:PySem.W.nsIn K mainGlobals "Before" = some (some (.ref C_Before)))
    (a_Under:PySem.W.nsIn K mainGlobals "Under" = some (some (.ref C_Under)))
    (a_Beside:PySem.W.nsIn K mainGlobals "Beside" = some (some (.ref C_Beside)))
    (a_Joint:PySem.W.nsIn K mainGlobals "Joint" = some (some (.ref C_Joint)))
    (a_All:PySem.W.nsIn K mainGlobals "All" = some (some (.ref C_All)))
    (a_Any:PySem.W.nsIn K mainGlobals "Any" = some (some (.ref C_Any)))
    (a_Not:PySem.W.nsIn K mainGlobals "Not" = some (some (.ref C_Not)))
    (a_ShrinkError:PySem.W.nsIn K mainGlobals "ShrinkError" = some (some (.ref C_ShrinkError)))
    (a_NoThing:PySem.W.nsIn K mainGlobals "NoThing" = some (some (.ref C_NoThing)))
    (a_Thing:PySem.W.nsIn K mainGlobals "Thing" = some (some (.ref C_Thing)))
    (a_Row:PySem.W.nsIn K mainGlobals "Row" = some (some (.ref C_Row)))
    (a_Forest:PySem.W.nsIn K mainGlobals "Forest" = some (some (.ref C_Forest)))
    (a_Table:PySem.W.nsIn K mainGlobals "Table" = some (some (.ref C_Table)))
    (l_Has_init:K.lookup f_Has_init = some ⟨oc_Has_init,od_Has_init,.func (PySem.W.fnOf "__init__" "Has.__init__" (defArgs s_Has_init) (defBody s_Has_init) (defScope s_Has_init) .none kV_Has_init dc_Has_init pm_Has_init an_Has_init cd_Has_init ct_Has_init),sl_Has_init⟩)
    (c_Has_init:PySem.W.codeIn K cd_Has_init "Has.__init__" = true)
    (k_Has_init:PySem.W.keepIn K (.ref f_Has_init) = true)
    (n_Has_init:PySem.W.isFn K (.ref f_Has_init) = true)
    (i_Has_holds:PySem.W.findIn K (.ref C_Has) "holds" = some (some (.ref f_Has_holds)))
    (l_Has_holds:K.lookup f_Has_holds = some ⟨oc_Has_holds,od_Has_holds,.func (PySem.W.fnOf "holds" "Has.holds" (defArgs s_Has_holds) (defBody s_Has_holds) (defScope s_Has_holds) .none kV_Has_holds dc_Has_holds pm_Has_holds an_Has_holds cd_Has_holds ct_Has_holds),sl_Has_holds⟩)
    (c_Has_holds:PySem.W.codeIn K cd_Has_holds "Has.holds" = true)
    (k_Has_holds:PySem.W.keepIn K (.ref f_Has_holds) = true)
    (n_Has_holds:PySem.W.isFn K (.ref f_Has_holds) = true)
    (l_Many_init:K.lookup f_Many_init = some ⟨oc_Many_init,od_Many_init,.func (PySem.W.fnOf "__init__" "Many.__init__" (defArgs s_Many_init) (defBody s_Many_init) (defScope s_Many_init) .none kV_Many_init dc_Many_init pm_Many_init an_Many_init cd_Many_init ct_Many_init),sl_Many_init⟩)
    (c_Many_init:PySem.W.codeIn K cd_Many_init "Many.__init__" = true)
    (k_Many_init:PySem.W.keepIn K (.ref f_Many_init) = true)
    (n_Many_init:PySem.W.isFn K (.ref f_Many_init) = true)
    (i_Many_holds:PySem.W.findIn K (.ref C_Many) "holds" = some (some (.ref f_Many_holds)))
    (l_Many_holds:K.lookup f_Many_holds = some ⟨oc_Many_holds,od_Many_holds,.func (PySem.W.fnOf "holds" "Many.holds" (defArgs s_Many_holds) (defBody s_Many_holds) (defScope s_Many_holds) .none kV_Many_holds dc_Many_holds pm_Many_holds an_Many_holds cd_Many_holds ct_Many_holds),sl_Many_holds⟩)
    (c_Many_holds:PySem.W.codeIn K cd_Many_holds "Many.holds" = true)
    (k_Many_holds:PySem.W.keepIn K (.ref f_Many_holds) = true)
    (n_Many_holds:PySem.W.isFn K (.ref f_Many_holds) = true)
    (l_Pair_init:K.lookup f_Pair_init = some ⟨oc_Pair_init,od_Pair_init,.func (PySem.W.fnOf "__init__" "Pair.__init__" (defArgs s_Pair_init) (defBody s_Pair_init) (defScope s_Pair_init) .none kV_Pair_init dc_Pair_init pm_Pair_init an_Pair_init cd_Pair_init ct_Pair_init),sl_Pair_init⟩)
    (c_Pair_init:PySem.W.codeIn K cd_Pair_init "Pair.__init__" = true)
    (k_Pair_init:PySem.W.keepIn K (.ref f_Pair_init) = true)
    (n_Pair_init:PySem.W.isFn K (.ref f_Pair_init) = true)
    (i_Before_holds:PySem.W.findIn K (.ref C_Before) "holds" = some (some (.ref f_Before_holds)))
    (l_Before_holds:K.lookup f_Before_holds = some ⟨oc_Before_holds,od_Before_holds,.func (PySem.W.fnOf "holds" "Before.holds" (defArgs s_Before_holds) (defBody s_Before_holds) (defScope s_Before_holds) .none kV_Before_holds dc_Before_holds pm_Before_holds an_Before_holds cd_Before_holds ct_Before_holds),sl_Before_holds⟩)
    (c_Before_holds:PySem.W.codeIn K cd_Before_holds "Before.holds" = true)
    (k_Before_holds:PySem.W.keepIn K (.ref f_Before_holds) = true)
    (n_Before_holds:PySem.W.isFn K (.ref f_Before_holds) = true)
    (i_Under_holds:PySem.W.findIn K (.ref C_Under) "holds" = some (some (.ref f_Under_holds)))
    (l_Under_holds:K.lookup f_Under_holds = some ⟨oc_Under_holds,od_Under_holds,.func (PySem.W.fnOf "holds" "Under.holds" (defArgs s_Under_holds) (defBody s_Under_holds) (defScope s_Under_holds) .none kV_Under_holds dc_Under_holds pm_Under_holds an_Under_holds cd_Under_holds ct_Under_holds),sl_Under_holds⟩)
    (c_Under_holds:PySem.W.codeIn K cd_Under_holds "Under.holds" = true)
    (k_Under_holds:PySem.W.keepIn K (.ref f_Under_holds) = true)
    (n_Under_holds:PySem.W.isFn K (.ref f_Under_holds) = true)
    (i_Beside_holds:PySem.W.findIn K (.ref C_Beside) "holds" = some (some (.ref f_Beside_holds)))
    (l_Beside_holds:K.lookup f_Beside_holds = some ⟨oc_Beside_holds,od_Beside_holds,.func (PySem.W.fnOf "holds" "Beside.holds" (defArgs s_Beside_holds) (defBody s_Beside_holds) (defScope s_Beside_holds) .none kV_Beside_holds dc_Beside_holds pm_Beside_holds an_Beside_holds cd_Beside_holds ct_Beside_holds),sl_Beside_holds⟩)
    (c_Beside_holds:PySem.W.codeIn K cd_Beside_holds "Beside.holds" = true)
    (k_Beside_holds:PySem.W.keepIn K (.ref f_Beside_holds) = true)
    (n_Beside_holds:PySem.W.isFn K (.ref f_Beside_holds) = true)
    (l_Joint_init:K.lookup f_Joint_init = some ⟨oc_Joint_init,od_Joint_init,.func (PySem.W.fnOf "__init__" "Joint.__init__" (defArgs s_Joint_init) (defBody s_Joint_init) (defScope s_Joint_init) .none kV_Joint_init dc_Joint_init pm_Joint_init an_Joint_init cd_Joint_init ct_Joint_init),sl_Joint_init⟩)
    (c_Joint_init:PySem.W.codeIn K cd_Joint_init "Joint.__init__" = true)
    (k_Joint_init:PySem.W.keepIn K (.ref f_Joint_init) = true)
    (n_Joint_init:PySem.W.isFn K (.ref f_Joint_init) = true)
    (i_All_holds:PySem.W.findIn K (.ref C_All) "holds" = some (some (.ref f_All_holds)))
    (l_All_holds:K.lookup f_All_holds = some ⟨oc_All_holds,od_All_holds,.func (PySem.W.fnOf "holds" "All.holds" (defArgs s_All_holds) (defBody s_All_holds) (defScope s_All_holds) .none kV_All_holds dc_All_holds pm_All_holds an_All_holds cd_All_holds ct_All_holds),sl_All_holds⟩)
    (c_All_holds:PySem.W.codeIn K cd_All_holds "All.holds" = true)
    (k_All_holds:PySem.W.keepIn K (.ref f_All_holds) = true)
    (n_All_holds:PySem.W.isFn K (.ref f_All_holds) = true)
    (i_Any_holds:PySem.W.findIn K (.ref C_Any) "holds" = some (some (.ref f_Any_holds)))
    (l_Any_holds:K.lookup f_Any_holds = some ⟨oc_Any_holds,od_Any_holds,.func (PySem.W.fnOf "holds" "Any.holds" (defArgs s_Any_holds) (defBody s_Any_holds) (defScope s_Any_holds) .none kV_Any_holds dc_Any_holds pm_Any_holds an_Any_holds cd_Any_holds ct_Any_holds),sl_Any_holds⟩)
    (c_Any_holds:PySem.W.codeIn K cd_Any_holds "Any.holds" = true)
    (k_Any_holds:PySem.W.keepIn K (.ref f_Any_holds) = true)
    (n_Any_holds:PySem.W.isFn K (.ref f_Any_holds) = true)
    (l_Not_init:K.lookup f_Not_init = some ⟨oc_Not_init,od_Not_init,.func (PySem.W.fnOf "__init__" "Not.__init__" (defArgs s_Not_init) (defBody s_Not_init) (defScope s_Not_init) .none kV_Not_init dc_Not_init pm_Not_init an_Not_init cd_Not_init ct_Not_init),sl_Not_init⟩)
    (c_Not_init:PySem.W.codeIn K cd_Not_init "Not.__init__" = true)
    (k_Not_init:PySem.W.keepIn K (.ref f_Not_init) = true)
    (n_Not_init:PySem.W.isFn K (.ref f_Not_init) = true)
    (i_Not_holds:PySem.W.findIn K (.ref C_Not) "holds" = some (some (.ref f_Not_holds)))
    (l_Not_holds:K.lookup f_Not_holds = some ⟨oc_Not_holds,od_Not_holds,.func (PySem.W.fnOf "holds" "Not.holds" (defArgs s_Not_holds) (defBody s_Not_holds) (defScope s_Not_holds) .none kV_Not_holds dc_Not_holds pm_Not_holds an_Not_holds cd_Not_holds ct_Not_holds),sl_Not_holds⟩)
    (c_Not_holds:PySem.W.codeIn K cd_Not_holds "Not.holds" = true)
    (k_Not_holds:PySem.W.keepIn K (.ref f_Not_holds) = true)
    (n_Not_holds:PySem.W.isFn K (.ref f_Not_holds) = true)
    (a_is_whole:PySem.W.nsIn K mainGlobals "is_whole" = some (some (.ref f_is_whole)))
    (l_is_whole:K.lookup f_is_whole = some ⟨oc_is_whole,od_is_whole,.func (PySem.W.fnOf "is_whole" "is_whole" (defArgs s_is_whole) (defBody s_is_whole) (defScope s_is_whole) .none kV_is_whole dc_is_whole pm_is_whole an_is_whole cd_is_whole ct_is_whole),sl_is_whole⟩)
    (c_is_whole:PySem.W.codeIn K cd_is_whole "is_whole" = true)
    (k_is_whole:PySem.W.keepIn K (.ref f_is_whole) = true)
    (a_is_mark:PySem.W.nsIn K mainGlobals "is_mark" = some (some (.ref f_is_mark)))
    (l_is_mark:K.lookup f_is_mark = some ⟨oc_is_mark,od_is_mark,.func (PySem.W.fnOf "is_mark" "is_mark" (defArgs s_is_mark) (defBody s_is_mark) (defScope s_is_mark) .none kV_is_mark dc_is_mark pm_is_mark an_is_mark cd_is_mark ct_is_mark),sl_is_mark⟩)
    (c_is_mark:PySem.W.codeIn K cd_is_mark "is_mark" = true)
    (k_is_mark:PySem.W.keepIn K (.ref f_is_mark) = true)
    (a_check_list:PySem.W.nsIn K mainGlobals "check_list" = some (some (.ref f_check_list)))
    (l_check_list:K.lookup f_check_list = some ⟨oc_check_list,od_check_list,.func (PySem.W.fnOf "check_list" "check_list" (defArgs s_check_list) (defBody s_check_list) (defScope s_check_list) .none kV_check_list dc_check_list pm_check_list an_check_list cd_check_list ct_check_list),sl_check_list⟩)
    (c_check_list:PySem.W.codeIn K cd_check_list "check_list" = true)
    (k_check_list:PySem.W.keepIn K (.ref f_check_list) = true)
    (a_check_marks:PySem.W.nsIn K mainGlobals "check_marks" = some (some (.ref f_check_marks)))
    (l_check_marks:K.lookup f_check_marks = some ⟨oc_check_marks,od_check_marks,.func (PySem.W.fnOf "check_marks" "check_marks" (defArgs s_check_marks) (defBody s_check_marks) (defScope s_check_marks) .none kV_check_marks dc_check_marks pm_check_marks an_check_marks cd_check_marks ct_check_marks),sl_check_marks⟩)
    (c_check_marks:PySem.W.codeIn K cd_check_marks "check_marks" = true)
    (k_check_marks:PySem.W.keepIn K (.ref f_check_marks) = true)
    (a_check_node:PySem.W.nsIn K mainGlobals "check_node" = some (some (.ref f_check_node)))
    (l_check_node:K.lookup f_check_node = some ⟨oc_check_node,od_check_node,.func (PySem.W.fnOf "check_node" "check_node" (defArgs s_check_node) (defBody s_check_node) (defScope s_check_node) .none kV_check_node dc_check_node pm_check_node an_check_node cd_check_node ct_check_node),sl_check_node⟩)
    (c_check_node:PySem.W.codeIn K cd_check_node "check_node" = true)
    (k_check_node:PySem.W.keepIn K (.ref f_check_node) = true)
    (a_check_nodes:PySem.W.nsIn K mainGlobals "check_nodes" = some (some (.ref f_check_nodes)))
    (l_check_nodes:K.lookup f_check_nodes = some ⟨oc_check_nodes,od_check_nodes,.func (PySem.W.fnOf "check_nodes" "check_nodes" (defArgs s_check_nodes) (defBody s_check_nodes) (defScope s_check_nodes) .none kV_check_nodes dc_check_nodes pm_check_nodes an_check_nodes cd_check_nodes ct_check_nodes),sl_check_nodes⟩)
    (c_check_nodes:PySem.W.codeIn K cd_check_nodes "check_nodes" = true)
    (k_check_nodes:PySem.W.keepIn K (.ref f_check_nodes) = true)
    (a_check_lines:PySem.W.nsIn K mainGlobals "check_lines" = some (some (.ref f_check_lines)))
    (l_check_lines:K.lookup f_check_lines = some ⟨oc_check_lines,od_check_lines,.func (PySem.W.fnOf "check_lines" "check_lines" (defArgs s_check_lines) (defBody s_check_lines) (defScope s_check_lines) .none kV_check_lines dc_check_lines pm_check_lines an_check_lines cd_check_lines ct_check_lines),sl_check_lines⟩)
    (c_check_lines:PySem.W.codeIn K cd_check_lines "check_lines" = true)
    (k_check_lines:PySem.W.keepIn K (.ref f_check_lines) = true)
    (a_marks_at:PySem.W.nsIn K mainGlobals "marks_at" = some (some (.ref f_marks_at)))
    (l_marks_at:K.lookup f_marks_at = some ⟨oc_marks_at,od_marks_at,.func (PySem.W.fnOf "marks_at" "marks_at" (defArgs s_marks_at) (defBody s_marks_at) (defScope s_marks_at) .none kV_marks_at dc_marks_at pm_marks_at an_marks_at cd_marks_at ct_marks_at),sl_marks_at⟩)
    (c_marks_at:PySem.W.codeIn K cd_marks_at "marks_at" = true)
    (k_marks_at:PySem.W.keepIn K (.ref f_marks_at) = true)
    (a_places_of:PySem.W.nsIn K mainGlobals "places_of" = some (some (.ref f_places_of)))
    (l_places_of:K.lookup f_places_of = some ⟨oc_places_of,od_places_of,.func (PySem.W.fnOf "places_of" "places_of" (defArgs s_places_of) (defBody s_places_of) (defScope s_places_of) .none kV_places_of dc_places_of pm_places_of an_places_of cd_places_of ct_places_of),sl_places_of⟩)
    (c_places_of:PySem.W.codeIn K cd_places_of "places_of" = true)
    (k_places_of:PySem.W.keepIn K (.ref f_places_of) = true)
    (a_stands_ahead:PySem.W.nsIn K mainGlobals "stands_ahead" = some (some (.ref f_stands_ahead)))
    (l_stands_ahead:K.lookup f_stands_ahead = some ⟨oc_stands_ahead,od_stands_ahead,.func (PySem.W.fnOf "stands_ahead" "stands_ahead" (defArgs s_stands_ahead) (defBody s_stands_ahead) (defScope s_stands_ahead) .none kV_stands_ahead dc_stands_ahead pm_stands_ahead an_stands_ahead cd_stands_ahead ct_stands_ahead),sl_stands_ahead⟩)
    (c_stands_ahead:PySem.W.codeIn K cd_stands_ahead "stands_ahead" = true)
    (k_stands_ahead:PySem.W.keepIn K (.ref f_stands_ahead) = true)
    (a_stands_right_ahead:PySem.W.nsIn K mainGlobals "stands_right_ahead" = some (some (.ref f_stands_right_ahead)))
    (l_stands_right_ahead:K.lookup f_stands_right_ahead = some ⟨oc_stands_right_ahead,od_stands_right_ahead,.func (PySem.W.fnOf "stands_right_ahead" "stands_right_ahead" (defArgs s_stands_right_ahead) (defBody s_stands_right_ahead) (defScope s_stands_right_ahead) .none kV_stands_right_ahead dc_stands_right_ahead pm_stands_right_ahead an_stands_right_ahead cd_stands_right_ahead ct_stands_right_ahead),sl_stands_right_ahead⟩)
    (c_stands_right_ahead:PySem.W.codeIn K cd_stands_right_ahead "stands_right_ahead" = true)
    (k_stands_right_ahead:PySem.W.keepIn K (.ref f_stands_right_ahead) = true)
    (a_Thing_init:PySem.W.findCls K (.ref C_Thing) (.type "type") "__init__" = some (.val (.ref f_Thing_init)))
    (l_Thing_init:K.lookup f_Thing_init = some ⟨oc_Thing_init,od_Thing_init,.func (PySem.W.fnOf "__init__" "Thing.__init__" (defArgs s_Thing_init) (defBody s_Thing_init) (defScope s_Thing_init) .none kV_Thing_init dc_Thing_init pm_Thing_init an_Thing_init cd_Thing_init ct_Thing_init),sl_Thing_init⟩)
    (c_Thing_init:PySem.W.codeIn K cd_Thing_init "Thing.__init__" = true)
    (k_Thing_init:PySem.W.keepIn K (.ref f_Thing_init) = true)
    (n_Thing_init:PySem.W.isFn K (.ref f_Thing_init) = true)
    (i_Row_many_of:PySem.W.findIn K (.ref C_Row) "many_of" = some (some (.ref f_Thing_many_of)))
    (i_Forest_many_of:PySem.W.findIn K (.ref C_Forest) "many_of" = some (some (.ref f_Thing_many_of)))
    (i_Table_many_of:PySem.W.findIn K (.ref C_Table) "many_of" = some (some (.ref f_Thing_many_of)))
    (l_Thing_many_of:K.lookup f_Thing_many_of = some ⟨oc_Thing_many_of,od_Thing_many_of,.func (PySem.W.fnOf "many_of" "Thing.many_of" (defArgs s_Thing_many_of) (defBody s_Thing_many_of) (defScope s_Thing_many_of) .none kV_Thing_many_of dc_Thing_many_of pm_Thing_many_of an_Thing_many_of cd_Thing_many_of ct_Thing_many_of),sl_Thing_many_of⟩)
    (c_Thing_many_of:PySem.W.codeIn K cd_Thing_many_of "Thing.many_of" = true)
    (k_Thing_many_of:PySem.W.keepIn K (.ref f_Thing_many_of) = true)
    (n_Thing_many_of:PySem.W.isFn K (.ref f_Thing_many_of) = true)
    (i_Row_is_before:PySem.W.findIn K (.ref C_Row) "is_before" = some (some (.ref f_Thing_is_before)))
    (i_Forest_is_before:PySem.W.findIn K (.ref C_Forest) "is_before" = some (some (.ref f_Thing_is_before)))
    (i_Table_is_before:PySem.W.findIn K (.ref C_Table) "is_before" = some (some (.ref f_Thing_is_before)))
    (l_Thing_is_before:K.lookup f_Thing_is_before = some ⟨oc_Thing_is_before,od_Thing_is_before,.func (PySem.W.fnOf "is_before" "Thing.is_before" (defArgs s_Thing_is_before) (defBody s_Thing_is_before) (defScope s_Thing_is_before) .none kV_Thing_is_before dc_Thing_is_before pm_Thing_is_before an_Thing_is_before cd_Thing_is_before ct_Thing_is_before),sl_Thing_is_before⟩)
    (c_Thing_is_before:PySem.W.codeIn K cd_Thing_is_before "Thing.is_before" = true)
    (k_Thing_is_before:PySem.W.keepIn K (.ref f_Thing_is_before) = true)
    (n_Thing_is_before:PySem.W.isFn K (.ref f_Thing_is_before) = true)
    (l_Row_init:K.lookup f_Row_init = some ⟨oc_Row_init,od_Row_init,.func (PySem.W.fnOf "__init__" "Row.__init__" (defArgs s_Row_init) (defBody s_Row_init) (defScope s_Row_init) .none kV_Row_init dc_Row_init pm_Row_init an_Row_init cd_Row_init ct_Row_init),sl_Row_init⟩)
    (c_Row_init:PySem.W.codeIn K cd_Row_init "Row.__init__" = true)
    (k_Row_init:PySem.W.keepIn K (.ref f_Row_init) = true)
    (n_Row_init:PySem.W.isFn K (.ref f_Row_init) = true)
    (i_Row_is_under:PySem.W.findIn K (.ref C_Row) "is_under" = some (some (.ref f_Row_is_under)))
    (l_Row_is_under:K.lookup f_Row_is_under = some ⟨oc_Row_is_under,od_Row_is_under,.func (PySem.W.fnOf "is_under" "Row.is_under" (defArgs s_Row_is_under) (defBody s_Row_is_under) (defScope s_Row_is_under) .none kV_Row_is_under dc_Row_is_under pm_Row_is_under an_Row_is_under cd_Row_is_under ct_Row_is_under),sl_Row_is_under⟩)
    (c_Row_is_under:PySem.W.codeIn K cd_Row_is_under "Row.is_under" = true)
    (k_Row_is_under:PySem.W.keepIn K (.ref f_Row_is_under) = true)
    (n_Row_is_under:PySem.W.isFn K (.ref f_Row_is_under) = true)
    (i_Row_is_beside:PySem.W.findIn K (.ref C_Row) "is_beside" = some (some (.ref f_Row_is_beside)))
    (l_Row_is_beside:K.lookup f_Row_is_beside = some ⟨oc_Row_is_beside,od_Row_is_beside,.func (PySem.W.fnOf "is_beside" "Row.is_beside" (defArgs s_Row_is_beside) (defBody s_Row_is_beside) (defScope s_Row_is_beside) .none kV_Row_is_beside dc_Row_is_beside pm_Row_is_beside an_Row_is_beside cd_Row_is_beside ct_Row_is_beside),sl_Row_is_beside⟩)
    (c_Row_is_beside:PySem.W.codeIn K cd_Row_is_beside "Row.is_beside" = true)
    (k_Row_is_beside:PySem.W.keepIn K (.ref f_Row_is_beside) = true)
    (n_Row_is_beside:PySem.W.isFn K (.ref f_Row_is_beside) = true)
    (l_Forest_init:K.lookup f_Forest_init = some ⟨oc_Forest_init,od_Forest_init,.func (PySem.W.fnOf "__init__" "Forest.__init__" (defArgs s_Forest_init) (defBody s_Forest_init) (defScope s_Forest_init) .none kV_Forest_init dc_Forest_init pm_Forest_init an_Forest_init cd_Forest_init ct_Forest_init),sl_Forest_init⟩)
    (c_Forest_init:PySem.W.codeIn K cd_Forest_init "Forest.__init__" = true)
    (k_Forest_init:PySem.W.keepIn K (.ref f_Forest_init) = true)
    (n_Forest_init:PySem.W.isFn K (.ref f_Forest_init) = true)
    (i_Forest_many:PySem.W.findIn K (.ref C_Forest) "many" = some (some (.ref f_Forest_many)))
    (l_Forest_many:K.lookup f_Forest_many = some ⟨oc_Forest_many,od_Forest_many,.func (PySem.W.fnOf "many" "Forest.many" (defArgs s_Forest_many) (defBody s_Forest_many) (defScope s_Forest_many) .none kV_Forest_many dc_Forest_many pm_Forest_many an_Forest_many cd_Forest_many ct_Forest_many),sl_Forest_many⟩)
    (c_Forest_many:PySem.W.codeIn K cd_Forest_many "Forest.many" = true)
    (k_Forest_many:PySem.W.keepIn K (.ref f_Forest_many) = true)
    (n_Forest_many:PySem.W.isFn K (.ref f_Forest_many) = true)
    (i_Forest_standing:PySem.W.findIn K (.ref C_Forest) "standing" = some (some (.ref f_Forest_standing)))
    (l_Forest_standing:K.lookup f_Forest_standing = some ⟨oc_Forest_standing,od_Forest_standing,.func (PySem.W.fnOf "standing" "Forest.standing" (defArgs s_Forest_standing) (defBody s_Forest_standing) (defScope s_Forest_standing) .none kV_Forest_standing dc_Forest_standing pm_Forest_standing an_Forest_standing cd_Forest_standing ct_Forest_standing),sl_Forest_standing⟩)
    (c_Forest_standing:PySem.W.codeIn K cd_Forest_standing "Forest.standing" = true)
    (k_Forest_standing:PySem.W.keepIn K (.ref f_Forest_standing) = true)
    (n_Forest_standing:PySem.W.isFn K (.ref f_Forest_standing) = true)
    (i_Forest_is_under:PySem.W.findIn K (.ref C_Forest) "is_under" = some (some (.ref f_Forest_is_under)))
    (l_Forest_is_under:K.lookup f_Forest_is_under = some ⟨oc_Forest_is_under,od_Forest_is_under,.func (PySem.W.fnOf "is_under" "Forest.is_under" (defArgs s_Forest_is_under) (defBody s_Forest_is_under) (defScope s_Forest_is_under) .none kV_Forest_is_under dc_Forest_is_under pm_Forest_is_under an_Forest_is_under cd_Forest_is_under ct_Forest_is_under),sl_Forest_is_under⟩)
    (c_Forest_is_under:PySem.W.codeIn K cd_Forest_is_under "Forest.is_under" = true)
    (k_Forest_is_under:PySem.W.keepIn K (.ref f_Forest_is_under) = true)
    (n_Forest_is_under:PySem.W.isFn K (.ref f_Forest_is_under) = true)
    (i_Forest_is_beside:PySem.W.findIn K (.ref C_Forest) "is_beside" = some (some (.ref f_Forest_is_beside)))
    (l_Forest_is_beside:K.lookup f_Forest_is_beside = some ⟨oc_Forest_is_beside,od_Forest_is_beside,.func (PySem.W.fnOf "is_beside" "Forest.is_beside" (defArgs s_Forest_is_beside) (defBody s_Forest_is_beside) (defScope s_Forest_is_beside) .none kV_Forest_is_beside dc_Forest_is_beside pm_Forest_is_beside an_Forest_is_beside cd_Forest_is_beside ct_Forest_is_beside),sl_Forest_is_beside⟩)
    (c_Forest_is_beside:PySem.W.codeIn K cd_Forest_is_beside "Forest.is_beside" = true)
    (k_Forest_is_beside:PySem.W.keepIn K (.ref f_Forest_is_beside) = true)
    (n_Forest_is_beside:PySem.W.isFn K (.ref f_Forest_is_beside) = true)
    (i_Forest_hanging:PySem.W.findIn K (.ref C_Forest) "hanging" = some (some (.ref f_Forest_hanging)))
    (l_Forest_hanging:K.lookup f_Forest_hanging = some ⟨oc_Forest_hanging,od_Forest_hanging,.func (PySem.W.fnOf "hanging" "Forest.hanging" (defArgs s_Forest_hanging) (defBody s_Forest_hanging) (defScope s_Forest_hanging) .none kV_Forest_hanging dc_Forest_hanging pm_Forest_hanging an_Forest_hanging cd_Forest_hanging ct_Forest_hanging),sl_Forest_hanging⟩)
    (c_Forest_hanging:PySem.W.codeIn K cd_Forest_hanging "Forest.hanging" = true)
    (k_Forest_hanging:PySem.W.keepIn K (.ref f_Forest_hanging) = true)
    (n_Forest_hanging:PySem.W.isFn K (.ref f_Forest_hanging) = true)
    (l_Table_init:K.lookup f_Table_init = some ⟨oc_Table_init,od_Table_init,.func (PySem.W.fnOf "__init__" "Table.__init__" (defArgs s_Table_init) (defBody s_Table_init) (defScope s_Table_init) .none kV_Table_init dc_Table_init pm_Table_init an_Table_init cd_Table_init ct_Table_init),sl_Table_init⟩)
    (c_Table_init:PySem.W.codeIn K cd_Table_init "Table.__init__" = true)
    (k_Table_init:PySem.W.keepIn K (.ref f_Table_init) = true)
    (n_Table_init:PySem.W.isFn K (.ref f_Table_init) = true)
    (i_Table_is_under:PySem.W.findIn K (.ref C_Table) "is_under" = some (some (.ref f_Table_is_under)))
    (l_Table_is_under:K.lookup f_Table_is_under = some ⟨oc_Table_is_under,od_Table_is_under,.func (PySem.W.fnOf "is_under" "Table.is_under" (defArgs s_Table_is_under) (defBody s_Table_is_under) (defScope s_Table_is_under) .none kV_Table_is_under dc_Table_is_under pm_Table_is_under an_Table_is_under cd_Table_is_under ct_Table_is_under),sl_Table_is_under⟩)
    (c_Table_is_under:PySem.W.codeIn K cd_Table_is_under "Table.is_under" = true)
    (k_Table_is_under:PySem.W.keepIn K (.ref f_Table_is_under) = true)
    (n_Table_is_under:PySem.W.isFn K (.ref f_Table_is_under) = true)
    (i_Table_is_beside:PySem.W.findIn K (.ref C_Table) "is_beside" = some (some (.ref f_Table_is_beside)))
    (l_Table_is_beside:K.lookup f_Table_is_beside = some ⟨oc_Table_is_beside,od_Table_is_beside,.func (PySem.W.fnOf "is_beside" "Table.is_beside" (defArgs s_Table_is_beside) (defBody s_Table_is_beside) (defScope s_Table_is_beside) .none kV_Table_is_beside dc_Table_is_beside pm_Table_is_beside an_Table_is_beside cd_Table_is_beside ct_Table_is_beside),sl_Table_is_beside⟩)
    (c_Table_is_beside:PySem.W.codeIn K cd_Table_is_beside "Table.is_beside" = true)
    (k_Table_is_beside:PySem.W.keepIn K (.ref f_Table_is_beside) = true)
    (n_Table_is_beside:PySem.W.isFn K (.ref f_Table_is_beside) = true)
    (a__law_cell_at:PySem.W.nsIn K mainGlobals "_law_cell_at" = some (some (.ref f__law_cell_at)))
    (l__law_cell_at:K.lookup f__law_cell_at = some ⟨oc__law_cell_at,od__law_cell_at,.func (PySem.W.fnOf "_law_cell_at" "_law_cell_at" (defArgs s__law_cell_at) (defBody s__law_cell_at) (defScope s__law_cell_at) .none kV__law_cell_at dc__law_cell_at pm__law_cell_at an__law_cell_at cd__law_cell_at ct__law_cell_at),sl__law_cell_at⟩)
    (c__law_cell_at:PySem.W.codeIn K cd__law_cell_at "_law_cell_at" = true)
    (k__law_cell_at:PySem.W.keepIn K (.ref f__law_cell_at) = true)
    (a__law_names:PySem.W.nsIn K mainGlobals "_law_names" = some (some (.ref f__law_names)))
    (l__law_names:K.lookup f__law_names = some ⟨oc__law_names,od__law_names,.func (PySem.W.fnOf "_law_names" "_law_names" (defArgs s__law_names) (defBody s__law_names) (defScope s__law_names) .none kV__law_names dc__law_names pm__law_names an__law_names cd__law_names ct__law_names),sl__law_names⟩)
    (c__law_names:PySem.W.codeIn K cd__law_names "_law_names" = true)
    (k__law_names:PySem.W.keepIn K (.ref f__law_names) = true)
    (a__law_data:PySem.W.nsIn K mainGlobals "_law_data" = some (some (.ref f__law_data)))
    (l__law_data:K.lookup f__law_data = some ⟨oc__law_data,od__law_data,.func (PySem.W.fnOf "_law_data" "_law_data" (defArgs s__law_data) (defBody s__law_data) (defScope s__law_data) .none kV__law_data dc__law_data pm__law_data an__law_data cd__law_data ct__law_data),sl__law_data⟩)
    (c__law_data:PySem.W.codeIn K cd__law_data "_law_data" = true)
    (k__law_data:PySem.W.keepIn K (.ref f__law_data) = true)
    (a__law_thing:PySem.W.nsIn K mainGlobals "_law_thing" = some (some (.ref f__law_thing)))
    (l__law_thing:K.lookup f__law_thing = some ⟨oc__law_thing,od__law_thing,.func (PySem.W.fnOf "_law_thing" "_law_thing" (defArgs s__law_thing) (defBody s__law_thing) (defScope s__law_thing) .none kV__law_thing dc__law_thing pm__law_thing an__law_thing cd__law_thing ct__law_thing),sl__law_thing⟩)
    (c__law_thing:PySem.W.codeIn K cd__law_thing "_law_thing" = true)
    (k__law_thing:PySem.W.keepIn K (.ref f__law_thing) = true)
    (a__law_spots:PySem.W.nsIn K mainGlobals "_law_spots" = some (some (.ref f__law_spots)))
    (l__law_spots:K.lookup f__law_spots = some ⟨oc__law_spots,od__law_spots,.func (PySem.W.fnOf "_law_spots" "_law_spots" (defArgs s__law_spots) (defBody s__law_spots) (defScope s__law_spots) .none kV__law_spots dc__law_spots pm__law_spots an__law_spots cd__law_spots ct__law_spots),sl__law_spots⟩)
    (c__law_spots:PySem.W.codeIn K cd__law_spots "_law_spots" = true)
    (k__law_spots:PySem.W.keepIn K (.ref f__law_spots) = true)
    (a__law_next_deep:PySem.W.nsIn K mainGlobals "_law_next_deep" = some (some (.ref f__law_next_deep)))
    (l__law_next_deep:K.lookup f__law_next_deep = some ⟨oc__law_next_deep,od__law_next_deep,.func (PySem.W.fnOf "_law_next_deep" "_law_next_deep" (defArgs s__law_next_deep) (defBody s__law_next_deep) (defScope s__law_next_deep) .none kV__law_next_deep dc__law_next_deep pm__law_next_deep an__law_next_deep cd__law_next_deep ct__law_next_deep),sl__law_next_deep⟩)
    (c__law_next_deep:PySem.W.codeIn K cd__law_next_deep "_law_next_deep" = true)
    (k__law_next_deep:PySem.W.keepIn K (.ref f__law_next_deep) = true)
    (a__law_pairs:PySem.W.nsIn K mainGlobals "_law_pairs" = some (some (.ref f__law_pairs)))
    (l__law_pairs:K.lookup f__law_pairs = some ⟨oc__law_pairs,od__law_pairs,.func (PySem.W.fnOf "_law_pairs" "_law_pairs" (defArgs s__law_pairs) (defBody s__law_pairs) (defScope s__law_pairs) .none kV__law_pairs dc__law_pairs pm__law_pairs an__law_pairs cd__law_pairs ct__law_pairs),sl__law_pairs⟩)
    (c__law_pairs:PySem.W.codeIn K cd__law_pairs "_law_pairs" = true)
    (k__law_pairs:PySem.W.keepIn K (.ref f__law_pairs) = true)
    (a__law_holds:PySem.W.nsIn K mainGlobals "_law_holds" = some (some (.ref f__law_holds)))
    (l__law_holds:K.lookup f__law_holds = some ⟨oc__law_holds,od__law_holds,.func (PySem.W.fnOf "_law_holds" "_law_holds" (defArgs s__law_holds) (defBody s__law_holds) (defScope s__law_holds) .none kV__law_holds dc__law_holds pm__law_holds an__law_holds cd__law_holds ct__law_holds),sl__law_holds⟩)
    (c__law_holds:PySem.W.codeIn K cd__law_holds "_law_holds" = true)
    (k__law_holds:PySem.W.keepIn K (.ref f__law_holds) = true)
    (a__law_leaf:PySem.W.nsIn K mainGlobals "_law_leaf" = some (some (.ref f__law_leaf)))
    (l__law_leaf:K.lookup f__law_leaf = some ⟨oc__law_leaf,od__law_leaf,.func (PySem.W.fnOf "_law_leaf" "_law_leaf" (defArgs s__law_leaf) (defBody s__law_leaf) (defScope s__law_leaf) .none kV__law_leaf dc__law_leaf pm__law_leaf an__law_leaf cd__law_leaf ct__law_leaf),sl__law_leaf⟩)
    (c__law_leaf:PySem.W.codeIn K cd__law_leaf "_law_leaf" = true)
    (k__law_leaf:PySem.W.keepIn K (.ref f__law_leaf) = true)
    (a__law_term:PySem.W.nsIn K mainGlobals "_law_term" = some (some (.ref f__law_term)))
    (l__law_term:K.lookup f__law_term = some ⟨oc__law_term,od__law_term,.func (PySem.W.fnOf "_law_term" "_law_term" (defArgs s__law_term) (defBody s__law_term) (defScope s__law_term) .none kV__law_term dc__law_term pm__law_term an__law_term cd__law_term ct__law_term),sl__law_term⟩)
    (c__law_term:PySem.W.codeIn K cd__law_term "_law_term" = true)
    (k__law_term:PySem.W.keepIn K (.ref f__law_term) = true)
    (a__law_fault:PySem.W.nsIn K mainGlobals "_law_fault" = some (some (.ref f__law_fault)))
    (l__law_fault:K.lookup f__law_fault = some ⟨oc__law_fault,od__law_fault,.func (PySem.W.fnOf "_law_fault" "_law_fault" (defArgs s__law_fault) (defBody s__law_fault) (defScope s__law_fault) .none kV__law_fault dc__law_fault pm__law_fault an__law_fault cd__law_fault ct__law_fault),sl__law_fault⟩)
    (c__law_fault:PySem.W.codeIn K cd__law_fault "_law_fault" = true)
    (k__law_fault:PySem.W.keepIn K (.ref f__law_fault) = true)
    (a__law_whole_term:PySem.W.nsIn K mainGlobals "_law_whole_term" = some (some (.ref f__law_whole_term)))
    (l__law_whole_term:K.lookup f__law_whole_term = some ⟨oc__law_whole_term,od__law_whole_term,.func (PySem.W.fnOf "_law_whole_term" "_law_whole_term" (defArgs s__law_whole_term) (defBody s__law_whole_term) (defScope s__law_whole_term) .none kV__law_whole_term dc__law_whole_term pm__law_whole_term an__law_whole_term cd__law_whole_term ct__law_whole_term),sl__law_whole_term⟩)
    (c__law_whole_term:PySem.W.codeIn K cd__law_whole_term "_law_whole_term" = true)
    (k__law_whole_term:PySem.W.keepIn K (.ref f__law_whole_term) = true)
    (a_law:PySem.W.nsIn K mainGlobals "law" = some (some (.ref f_law)))
    (l_law:K.lookup f_law = some ⟨oc_law,od_law,.func (PySem.W.fnOf "law" "law" (defArgs s_law) (defBody s_law) (defScope s_law) .none kV_law dc_law pm_law an_law cd_law ct_law),sl_law⟩)
    (c_law:PySem.W.codeIn K cd_law "law" = true)
    (k_law:PySem.W.keepIn K (.ref f_law) = true)
    (z_all:PySem.W.nsIn K mainGlobals "all" = some none)
    (z_any:PySem.W.nsIn K mainGlobals "any" = some none)
    (z_bool:PySem.W.nsIn K mainGlobals "bool" = some none)
    (z_enumerate:PySem.W.nsIn K mainGlobals "enumerate" = some none)
    (z_int:PySem.W.nsIn K mainGlobals "int" = some none)
    (z_isinstance:PySem.W.nsIn K mainGlobals "isinstance" = some none)
    (z_len:PySem.W.nsIn K mainGlobals "len" = some none)
    (z_list:PySem.W.nsIn K mainGlobals "list" = some none)
    (z_min:PySem.W.nsIn K mainGlobals "min" = some none)
    (z_range:PySem.W.nsIn K mainGlobals "range" = some none)
    (z_str:PySem.W.nsIn K mainGlobals "str" = some none)
    (z_tuple:PySem.W.nsIn K mainGlobals "tuple" = some none)
    (z_zip:PySem.W.nsIn K mainGlobals "zip" = some none)
    (g_LETTERS:PySem.W.nsIn K mainGlobals "LETTERS" = some (some (.str LET tk_LETTERS)))
    (g_LONGEST_MARK:PySem.W.nsIn K mainGlobals "LONGEST_MARK" = some (some (.int 8 tk_LONGEST_MARK)))
    (g_MOST_IN_ROW:PySem.W.nsIn K mainGlobals "MOST_IN_ROW" = some (some (.int 40 tk_MOST_IN_ROW)))
    (g_MOST_NODES:PySem.W.nsIn K mainGlobals "MOST_NODES" = some (some (.int 40 tk_MOST_NODES)))
    (g_DEEPEST:PySem.W.nsIn K mainGlobals "DEEPEST" = some (some (.int 12 tk_DEEPEST)))
    (g_MOST_LINES:PySem.W.nsIn K mainGlobals "MOST_LINES" = some (some (.int 12 tk_MOST_LINES)))
    (g_MOST_COLUMNS:PySem.W.nsIn K mainGlobals "MOST_COLUMNS" = some (some (.int 12 tk_MOST_COLUMNS)))
    (x1_NoThing:PySem.W.excIn K C_NoThing [.type "ValueError",.type "Exception",.type "BaseException",.type "object"] "ValueError.__new__" = true)
    (x2_NoThing:PySem.W.findIn K (.ref C_NoThing) "__getattribute__" = some (some (.builtin "BaseException.__getattribute__")))
    (x3_NoThing:PySem.W.findIn K (.ref C_NoThing) "__getattr__" = some none)
    (x4_NoThing:PySem.W.findIn K (.ref C_NoThing) "__class__" = some (some (.builtin "object.__class__")))
    (x5_NoThing:PySem.W.mroIn K C_NoThing (.type "object") = some true)
    (x6_NoThing:PySem.W.subIn K (.ref C_NoThing) (.type "BaseException") = some true)
    (x7_NoThing:PySem.W.clsIn K C_NoThing = some cd_NoThing)
    (r1_All:PySem.W.plainGet K C_All Str.empty = true)
    (r2_All:PySem.W.hasDictIn K C_All = true)
    (r3_All:PySem.W.plainOver K C_All = true)
    (r4_All:PySem.W.findIn K (.ref C_All) "__setattr__" = some (some (.builtin "object.__setattr__")))
    (n_All_parts:PySem.W.findIn K (.ref C_All) "parts" = some none)
    (r6_All:PySem.W.findIn K (.ref C_All) "__class__" = some (some (.builtin "object.__class__")))
    (r9_All:PySem.W.mroIn K C_All (.type "object") = some true)
    (r1_Any:PySem.W.plainGet K C_Any Str.empty = true)
    (r2_Any:PySem.W.hasDictIn K C_Any = true)
    (r3_Any:PySem.W.plainOver K C_Any = true)
    (r4_Any:PySem.W.findIn K (.ref C_Any) "__setattr__" = some (some (.builtin "object.__setattr__")))
    (n_Any_parts:PySem.W.findIn K (.ref C_Any) "parts" = some none)
    (r6_Any:PySem.W.findIn K (.ref C_Any) "__class__" = some (some (.builtin "object.__class__")))
    (r9_Any:PySem.W.mroIn K C_Any (.type "object") = some true)
    (r1_Before:PySem.W.plainGet K C_Before Str.empty = true)
    (r2_Before:PySem.W.hasDictIn K C_Before = true)
    (r3_Before:PySem.W.plainOver K C_Before = true)
    (r4_Before:PySem.W.findIn K (.ref C_Before) "__setattr__" = some (some (.builtin "object.__setattr__")))
    (n_Before_one:PySem.W.findIn K (.ref C_Before) "one" = some none)
    (n_Before_other:PySem.W.findIn K (.ref C_Before) "other" = some none)
    (r6_Before:PySem.W.findIn K (.ref C_Before) "__class__" = some (some (.builtin "object.__class__")))
    (r9_Before:PySem.W.mroIn K C_Before (.type "object") = some true)
    (r1_Beside:PySem.W.plainGet K C_Beside Str.empty = true)
    (r2_Beside:PySem.W.hasDictIn K C_Beside = true)
    (r3_Beside:PySem.W.plainOver K C_Beside = true)
    (r4_Beside:PySem.W.findIn K (.ref C_Beside) "__setattr__" = some (some (.builtin "object.__setattr__")))
    (n_Beside_one:PySem.W.findIn K (.ref C_Beside) "one" = some none)
    (n_Beside_other:PySem.W.findIn K (.ref C_Beside) "other" = some none)
    (r6_Beside:PySem.W.findIn K (.ref C_Beside) "__class__" = some (some (.builtin "object.__class__")))
    (r9_Beside:PySem.W.mroIn K C_Beside (.type "object") = some true)
    (r1_Forest:PySem.W.plainGet K C_Forest Str.empty = true)
    (r2_Forest:PySem.W.hasDictIn K C_Forest = true)
    (r3_Forest:PySem.W.plainOver K C_Forest = true)
    (r4_Forest:PySem.W.findIn K (.ref C_Forest) "__setattr__" = some (some (.builtin "object.__setattr__")))
    (n_Forest_nodes:PySem.W.findIn K (.ref C_Forest) "nodes" = some none)
    (n_Forest_spot_marks:PySem.W.findIn K (.ref C_Forest) "spot_marks" = some none)
    (r6_Forest:PySem.W.findIn K (.ref C_Forest) "__class__" = some (some (.builtin "object.__class__")))
    (r9_Forest:PySem.W.mroIn K C_Forest (.type "object") = some true)
    (r1_Has:PySem.W.plainGet K C_Has Str.empty = true)
    (r2_Has:PySem.W.hasDictIn K C_Has = true)
    (r3_Has:PySem.W.plainOver K C_Has = true)
    (r4_Has:PySem.W.findIn K (.ref C_Has) "__setattr__" = some (some (.builtin "object.__setattr__")))
    (n_Has_mark:PySem.W.findIn K (.ref C_Has) "mark" = some none)
    (r6_Has:PySem.W.findIn K (.ref C_Has) "__class__" = some (some (.builtin "object.__class__")))
    (r9_Has:PySem.W.mroIn K C_Has (.type "object") = some true)
    (r1_Many:PySem.W.plainGet K C_Many Str.empty = true)
    (r2_Many:PySem.W.hasDictIn K C_Many = true)
    (r3_Many:PySem.W.plainOver K C_Many = true)
    (r4_Many:PySem.W.findIn K (.ref C_Many) "__setattr__" = some (some (.builtin "object.__setattr__")))
    (n_Many_mark:PySem.W.findIn K (.ref C_Many) "mark" = some none)
    (n_Many_number:PySem.W.findIn K (.ref C_Many) "number" = some none)
    (r6_Many:PySem.W.findIn K (.ref C_Many) "__class__" = some (some (.builtin "object.__class__")))
    (r9_Many:PySem.W.mroIn K C_Many (.type "object") = some true)
    (r1_Not:PySem.W.plainGet K C_Not Str.empty = true)
    (r2_Not:PySem.W.hasDictIn K C_Not = true)
    (r3_Not:PySem.W.plainOver K C_Not = true)
    (r4_Not:PySem.W.findIn K (.ref C_Not) "__setattr__" = some (some (.builtin "object.__setattr__")))
    (n_Not_part:PySem.W.findIn K (.ref C_Not) "part" = some none)
    (r6_Not:PySem.W.findIn K (.ref C_Not) "__class__" = some (some (.builtin "object.__class__")))
    (r9_Not:PySem.W.mroIn K C_Not (.type "object") = some true)
    (r1_Row:PySem.W.plainGet K C_Row Str.empty = true)
    (r2_Row:PySem.W.hasDictIn K C_Row = true)
    (r3_Row:PySem.W.plainOver K C_Row = true)
    (r4_Row:PySem.W.findIn K (.ref C_Row) "__setattr__" = some (some (.builtin "object.__setattr__")))
    (n_Row_spot_marks:PySem.W.findIn K (.ref C_Row) "spot_marks" = some none)
    (r6_Row:PySem.W.findIn K (.ref C_Row) "__class__" = some (some (.builtin "object.__class__")))
    (r9_Row:PySem.W.mroIn K C_Row (.type "object") = some true)
    (r1_Table:PySem.W.plainGet K C_Table Str.empty = true)
    (r2_Table:PySem.W.hasDictIn K C_Table = true)
    (r3_Table:PySem.W.plainOver K C_Table = true)
    (r4_Table:PySem.W.findIn K (.ref C_Table) "__setattr__" = some (some (.builtin "object.__setattr__")))
    (n_Table_columns:PySem.W.findIn K (.ref C_Table) "columns" = some none)
    (n_Table_lines:PySem.W.findIn K (.ref C_Table) "lines" = some none)
    (n_Table_spot_marks:PySem.W.findIn K (.ref C_Table) "spot_marks" = some none)
    (r6_Table:PySem.W.findIn K (.ref C_Table) "__class__" = some (some (.builtin "object.__class__")))
    (r9_Table:PySem.W.mroIn K C_Table (.type "object") = some true)
    (r1_Under:PySem.W.plainGet K C_Under Str.empty = true)
    (r2_Under:PySem.W.hasDictIn K C_Under = true)
    (r3_Under:PySem.W.plainOver K C_Under = true)
    (r4_Under:PySem.W.findIn K (.ref C_Under) "__setattr__" = some (some (.builtin "object.__setattr__")))
    (n_Under_one:PySem.W.findIn K (.ref C_Under) "one" = some none)
    (n_Under_other:PySem.W.findIn K (.ref C_Under) "other" = some none)
    (r6_Under:PySem.W.findIn K (.ref C_Under) "__class__" = some (some (.builtin "object.__class__")))
    (r9_Under:PySem.W.mroIn K C_Under (.type "object") = some true)
    (r7:PySem.W.specialIn K (.builtin "object.__class__") "__get__" = some (some (.builtin "getset_descriptor.__get__")))
    (r8:PySem.W.takesIn K (.builtin "object.__class__") = some true)
    (mi_All:PySem.W.findIn K (.ref C_All) "__init__" = some (some (.ref f_Joint_init)))
    (m1_All:PySem.W.makesIn K C_All = true)
    (m2_All:PySem.W.keepIn K (.ref C_All) = true)
    (mi_Any:PySem.W.findIn K (.ref C_Any) "__init__" = some (some (.ref f_Joint_init)))
    (m1_Any:PySem.W.makesIn K C_Any = true)
    (m2_Any:PySem.W.keepIn K (.ref C_Any) = true)
    (mi_Before:PySem.W.findIn K (.ref C_Before) "__init__" = some (some (.ref f_Pair_init)))
    (m1_Before:PySem.W.makesIn K C_Before = true)
    (m2_Before:PySem.W.keepIn K (.ref C_Before) = true)
    (mi_Beside:PySem.W.findIn K (.ref C_Beside) "__init__" = some (some (.ref f_Pair_init)))
    (m1_Beside:PySem.W.makesIn K C_Beside = true)
    (m2_Beside:PySem.W.keepIn K (.ref C_Beside) = true)
    (mi_Forest:PySem.W.findIn K (.ref C_Forest) "__init__" = some (some (.ref f_Forest_init)))
    (m1_Forest:PySem.W.makesIn K C_Forest = true)
    (m2_Forest:PySem.W.keepIn K (.ref C_Forest) = true)
    (mi_Has:PySem.W.findIn K (.ref C_Has) "__init__" = some (some (.ref f_Has_init)))
    (m1_Has:PySem.W.makesIn K C_Has = true)
    (m2_Has:PySem.W.keepIn K (.ref C_Has) = true)
    (mi_Many:PySem.W.findIn K (.ref C_Many) "__init__" = some (some (.ref f_Many_init)))
    (m1_Many:PySem.W.makesIn K C_Many = true)
    (m2_Many:PySem.W.keepIn K (.ref C_Many) = true)
    (mi_Not:PySem.W.findIn K (.ref C_Not) "__init__" = some (some (.ref f_Not_init)))
    (m1_Not:PySem.W.makesIn K C_Not = true)
    (m2_Not:PySem.W.keepIn K (.ref C_Not) = true)
    (mi_Row:PySem.W.findIn K (.ref C_Row) "__init__" = some (some (.ref f_Row_init)))
    (m1_Row:PySem.W.makesIn K C_Row = true)
    (m2_Row:PySem.W.keepIn K (.ref C_Row) = true)
    (mi_Table:PySem.W.findIn K (.ref C_Table) "__init__" = some (some (.ref f_Table_init)))
    (m1_Table:PySem.W.makesIn K C_Table = true)
    (m2_Table:PySem.W.keepIn K (.ref C_Table) = true)
    (mi_Under:PySem.W.findIn K (.ref C_Under) "__init__" = some (some (.ref f_Pair_init)))
    (m1_Under:PySem.W.makesIn K C_Under = true)
    (m2_Under:PySem.W.keepIn K (.ref C_Under) = true)
    (th1_Thing:PySem.W.specialIn K (.ref C_Thing) "__getattribute__" = some (some (.builtin "type.__getattribute__")))
    (th2_Thing:PySem.W.readsIn K C_Thing (.type "type") = true) :
    ∃ fd:FuncData,(∀ (s:Shared) (v:Value),BindsTo s fd ⟨[v],[]⟩ [("_law_script",v)]) ∧ ∀ base:Heap,K.In base → base.Ns mainGlobals mg → FnOk l.prog w K mg base CX0 27 fa fd ["_law_script"] (sp_law K):=by
  have e:=hfa.symm.trans (PySem.W.mg_of X G a_law)
  cases e
  have T:Txt K mg ⟨C_Fault,C_Has,C_Many,C_Pair,C_Before,C_Under,C_Beside,C_Joint,C_All,C_Any,C_Not,C_ShrinkError,C_NoThing,C_Thing,C_Row,C_Forest,C_Table⟩:=⟨PySem.W.mg_none_of X G z_all,PySem.W.mg_none_of X G z_any,PySem.W.mg_none_of X G z_bool,PySem.W.mg_none_of X G z_enumerate,PySem.W.mg_none_of X G z_int,PySem.W.mg_none_of X G z_isinstance,PySem.W.mg_none_of X G z_len,PySem.W.mg_none_of X G z_list,PySem.W.mg_none_of X G z_min,PySem.W.mg_none_of X G z_range,PySem.W.mg_none_of X G z_str,PySem.W.mg_none_of X G z_tuple,PySem.W.mg_none_of X G z_zip,PySem.W.mg_of X G a_Fault,PySem.W.mg_of X G a_Has,PySem.W.mg_of X G a_Many,PySem.W.mg_of X G a_Pair,PySem.W.mg_of X G a_Before,PySem.W.mg_of X G a_Under,PySem.W.mg_of X G a_Beside,PySem.W.mg_of X G a_Joint,PySem.W.mg_of X G a_All,PySem.W.mg_of X G a_Any,PySem.W.mg_of X G a_Not,PySem.W.mg_of X G a_ShrinkError,PySem.W.mg_of X G a_NoThing,PySem.W.mg_of X G a_Thing,PySem.W.mg_of X G a_Row,PySem.W.mg_of X G a_Forest,PySem.W.mg_of X G a_Table,⟨_,PySem.W.mg_of X G g_LETTERS⟩,⟨_,PySem.W.mg_of X G g_LONGEST_MARK⟩,⟨_,PySem.W.mg_of X G g_MOST_IN_ROW⟩,⟨_,PySem.W.mg_of X G g_MOST_NODES⟩,⟨_,PySem.W.mg_of X G g_DEEPEST⟩,⟨_,PySem.W.mg_of X G g_MOST_LINES⟩,⟨_,PySem.W.mg_of X G g_MOST_COLUMNS⟩,⟨PySem.W.mg_of X G a_NoThing,a_NoThing,x1_NoThing⟩,⟨x2_NoThing,x3_NoThing,x4_NoThing,x5_NoThing,x6_NoThing,by rw [x7_NoThing]; rfl⟩,⟨r1_All,r2_All,r3_All,r4_All⟩,n_All_parts,r6_All,r9_All,⟨r1_Any,r2_Any,r3_Any,r4_Any⟩,n_Any_parts,r6_Any,r9_Any,⟨r1_Before,r2_Before,r3_Before,r4_Before⟩,n_Before_one,n_Before_other,r6_Before,r9_Before,⟨r1_Beside,r2_Beside,r3_Beside,r4_Beside⟩,n_Beside_one,n_Beside_other,r6_Beside,r9_Beside,⟨r1_Forest,r2_Forest,r3_Forest,r4_Forest⟩,n_Forest_nodes,n_Forest_spot_marks,r6_Forest,r9_Forest,⟨r1_Has,r2_Has,r3_Has,r4_Has⟩,n_Has_mark,r6_Has,r9_Has,⟨r1_Many,r2_Many,r3_Many,r4_Many⟩,n_Many_mark,n_Many_number,r6_Many,r9_Many,⟨r1_Not,r2_Not,r3_Not,r4_Not⟩,n_Not_part,r6_Not,r9_Not,⟨r1_Row,r2_Row,r3_Row,r4_Row⟩,n_Row_spot_marks,r6_Row,r9_Row,⟨r1_Table,r2_Table,r3_Table,r4_Table⟩,n_Table_columns,n_Table_lines,n_Table_spot_marks,r6_Table,r9_Table,⟨r1_Under,r2_Under,r3_Under,r4_Under⟩,n_Under_one,n_Under_other,r6_Under,r9_Under,r7,r8⟩
  have F_Has_init:=fun_mk (st:=s_Has_init) l_Has_init c_Has_init k_Has_init
  have B_Has_init:Binds K _ ["self","mark"] []:=F_Has_init.binds (ps:=["self","mark"]) fun _ _ _ _ _ _ us hl=>match us,hl with | [_,_],_=>rfl
  have F_Has_holds:=fun_mk (st:=s_Has_holds) l_Has_holds c_Has_holds k_Has_holds
  have B_Has_holds:Binds K _ ["self","thing"] []:=F_Has_holds.binds (ps:=["self","thing"]) fun _ _ _ _ _ _ us hl=>match us,hl with | [_,_],_=>rfl
  have F_Many_init:=fun_mk (st:=s_Many_init) l_Many_init c_Many_init k_Many_init
  have B_Many_init:Binds K _ ["self","number","mark"] []:=F_Many_init.binds (ps:=["self","number","mark"]) fun _ _ _ _ _ _ us hl=>match us,hl with | [_,_,_],_=>rfl
  have F_Many_holds:=fun_mk (st:=s_Many_holds) l_Many_holds c_Many_holds k_Many_holds
  have B_Many_holds:Binds K _ ["self","thing"] []:=F_Many_holds.binds (ps:=["self","thing"]) fun _ _ _ _ _ _ us hl=>match us,hl with | [_,_],_=>rfl
  have F_Pair_init:=fun_mk (st:=s_Pair_init) l_Pair_init c_Pair_init k_Pair_init
  have B_Pair_init:Binds K _ ["self","one","other"] []:=F_Pair_init.binds (ps:=["self","one","other"]) fun _ _ _ _ _ _ us hl=>match us,hl with | [_,_,_],_=>rfl
  have F_Before_holds:=fun_mk (st:=s_Before_holds) l_Before_holds c_Before_holds k_Before_holds
  have B_Before_holds:Binds K _ ["self","thing"] []:=F_Before_holds.binds (ps:=["self","thing"]) fun _ _ _ _ _ _ us hl=>match us,hl with | [_,_],_=>rfl
  have F_Under_holds:=fun_mk (st:=s_Under_holds) l_Under_holds c_Under_holds k_Under_holds
  have B_Under_holds:Binds K _ ["self","thing"] []:=F_Under_holds.binds (ps:=["self","thing"]) fun _ _ _ _ _ _ us hl=>match us,hl with | [_,_],_=>rfl
  have F_Beside_holds:=fun_mk (st:=s_Beside_holds) l_Beside_holds c_Beside_holds k_Beside_holds
  have B_Beside_holds:Binds K _ ["self","thing"] []:=F_Beside_holds.binds (ps:=["self","thing"]) fun _ _ _ _ _ _ us hl=>match us,hl with | [_,_],_=>rfl
  have F_Joint_init:=fun_mk (st:=s_Joint_init) l_Joint_init c_Joint_init k_Joint_init
  have B_Joint_init:Binds K _ ["self","parts"] []:=F_Joint_init.binds (ps:=["self","parts"]) fun _ _ _ _ _ _ us hl=>match us,hl with | [_,_],_=>rfl
  have F_All_holds:=fun_mk (st:=s_All_holds) l_All_holds c_All_holds k_All_holds
  have B_All_holds:Binds K _ ["self","thing"] []:=F_All_holds.binds (ps:=["self","thing"]) fun _ _ _ _ _ _ us hl=>match us,hl with | [_,_],_=>rfl
  have F_Any_holds:=fun_mk (st:=s_Any_holds) l_Any_holds c_Any_holds k_Any_holds
  have B_Any_holds:Binds K _ ["self","thing"] []:=F_Any_holds.binds (ps:=["self","thing"]) fun _ _ _ _ _ _ us hl=>match us,hl with | [_,_],_=>rfl
  have F_Not_init:=fun_mk (st:=s_Not_init) l_Not_init c_Not_init k_Not_init
  have B_Not_init:Binds K _ ["self","part"] []:=F_Not_init.binds (ps:=["self","part"]) fun _ _ _ _ _ _ us hl=>match us,hl with | [_,_],_=>rfl
  have F_Not_holds:=fun_mk (st:=s_Not_holds) l_Not_holds c_Not_holds k_Not_holds
  have B_Not_holds:Binds K _ ["self","thing"] []:=F_Not_holds.binds (ps:=["self","thing"]) fun _ _ _ _ _ _ us hl=>match us,hl with | [_,_],_=>rfl
  have F_is_whole:=fun_mk (st:=s_is_whole) l_is_whole c_is_whole k_is_whole
  have D_is_whole:Def K mg "is_whole" s_is_whole ["thing"] f_is_whole _:=⟨F_is_whole,PySem.W.mg_of X G a_is_whole,F_is_whole.binds (ps:=["thing"]) fun _ _ _ _ _ _ us hl=>match us,hl with | [_],_=>rfl⟩
  have F_is_mark:=fun_mk (st:=s_is_mark) l_is_mark c_is_mark k_is_mark
  have D_is_mark:Def K mg "is_mark" s_is_mark ["thing"] f_is_mark _:=⟨F_is_mark,PySem.W.mg_of X G a_is_mark,F_is_mark.binds (ps:=["thing"]) fun _ _ _ _ _ _ us hl=>match us,hl with | [_],_=>rfl⟩
  have F_check_list:=fun_mk (st:=s_check_list) l_check_list c_check_list k_check_list
  have D_check_list:Def K mg "check_list" s_check_list ["thing","most"] f_check_list _:=⟨F_check_list,PySem.W.mg_of X G a_check_list,F_check_list.binds (ps:=["thing","most"]) fun _ _ _ _ _ _ us hl=>match us,hl with | [_,_],_=>rfl⟩
  have F_check_marks:=fun_mk (st:=s_check_marks) l_check_marks c_check_marks k_check_marks
  have D_check_marks:Def K mg "check_marks" s_check_marks ["marks","most"] f_check_marks _:=⟨F_check_marks,PySem.W.mg_of X G a_check_marks,F_check_marks.binds (ps:=["marks","most"]) fun _ _ _ _ _ _ us hl=>match us,hl with | [_,_],_=>rfl⟩
  have F_check_node:=fun_mk (st:=s_check_node) l_check_node c_check_node k_check_node
  have D_check_node:Def K mg "check_node" s_check_node ["node","deepest"] f_check_node _:=⟨F_check_node,PySem.W.mg_of X G a_check_node,F_check_node.binds (ps:=["node","deepest"]) fun _ _ _ _ _ _ us hl=>match us,hl with | [_,_],_=>rfl⟩
  have F_check_nodes:=fun_mk (st:=s_check_nodes) l_check_nodes c_check_nodes k_check_nodes
  have D_check_nodes:Def K mg "check_nodes" s_check_nodes ["nodes"] f_check_nodes _:=⟨F_check_nodes,PySem.W.mg_of X G a_check_nodes,F_check_nodes.binds (ps:=["nodes"]) fun _ _ _ _ _ _ us hl=>match us,hl with | [_],_=>rfl⟩
  have F_check_lines:=fun_mk (st:=s_check_lines) l_check_lines c_check_lines k_check_lines
  have D_check_lines:Def K mg "check_lines" s_check_lines ["lines"] f_check_lines _:=⟨F_check_lines,PySem.W.mg_of X G a_check_lines,F_check_lines.binds (ps:=["lines"]) fun _ _ _ _ _ _ us hl=>match us,hl with | [_],_=>rfl⟩
  have F_marks_at:=fun_mk (st:=s_marks_at) l_marks_at c_marks_at k_marks_at
  have D_marks_at:Def K mg "marks_at" s_marks_at ["marks","places"] f_marks_at _:=⟨F_marks_at,PySem.W.mg_of X G a_marks_at,F_marks_at.binds (ps:=["marks","places"]) fun _ _ _ _ _ _ us hl=>match us,hl with | [_,_],_=>rfl⟩
  have F_places_of:=fun_mk (st:=s_places_of) l_places_of c_places_of k_places_of
  have D_places_of:Def K mg "places_of" s_places_of ["marks","mark"] f_places_of _:=⟨F_places_of,PySem.W.mg_of X G a_places_of,F_places_of.binds (ps:=["marks","mark"]) fun _ _ _ _ _ _ us hl=>match us,hl with | [_,_],_=>rfl⟩
  have F_stands_ahead:=fun_mk (st:=s_stands_ahead) l_stands_ahead c_stands_ahead k_stands_ahead
  have D_stands_ahead:Def K mg "stands_ahead" s_stands_ahead ["marks","one","other"] f_stands_ahead _:=⟨F_stands_ahead,PySem.W.mg_of X G a_stands_ahead,F_stands_ahead.binds (ps:=["marks","one","other"]) fun _ _ _ _ _ _ us hl=>match us,hl with | [_,_,_],_=>rfl⟩
  have F_stands_right_ahead:=fun_mk (st:=s_stands_right_ahead) l_stands_right_ahead c_stands_right_ahead k_stands_right_ahead
  have D_stands_right_ahead:Def K mg "stands_right_ahead" s_stands_right_ahead ["marks","one","other"] f_stands_right_ahead _:=⟨F_stands_right_ahead,PySem.W.mg_of X G a_stands_right_ahead,F_stands_right_ahead.binds (ps:=["marks","one","other"]) fun _ _ _ _ _ _ us hl=>match us,hl with | [_,_,_],_=>rfl⟩
  have F_Thing_init:=fun_mk (st:=s_Thing_init) l_Thing_init c_Thing_init k_Thing_init
  have B_Thing_init:Binds K _ ["self","spot_marks"] []:=F_Thing_init.binds (ps:=["self","spot_marks"]) fun _ _ _ _ _ _ us hl=>match us,hl with | [_,_],_=>rfl
  have F_Thing_many_of:=fun_mk (st:=s_Thing_many_of) l_Thing_many_of c_Thing_many_of k_Thing_many_of
  have B_Thing_many_of:Binds K _ ["self","mark"] []:=F_Thing_many_of.binds (ps:=["self","mark"]) fun _ _ _ _ _ _ us hl=>match us,hl with | [_,_],_=>rfl
  have F_Thing_is_before:=fun_mk (st:=s_Thing_is_before) l_Thing_is_before c_Thing_is_before k_Thing_is_before
  have B_Thing_is_before:Binds K _ ["self","one","other"] []:=F_Thing_is_before.binds (ps:=["self","one","other"]) fun _ _ _ _ _ _ us hl=>match us,hl with | [_,_,_],_=>rfl
  have F_Row_init:=fun_mk (st:=s_Row_init) l_Row_init c_Row_init k_Row_init
  have B_Row_init:Binds K _ ["self","marks"] []:=F_Row_init.binds (ps:=["self","marks"]) fun _ _ _ _ _ _ us hl=>match us,hl with | [_,_],_=>rfl
  have F_Row_is_under:=fun_mk (st:=s_Row_is_under) l_Row_is_under c_Row_is_under k_Row_is_under
  have B_Row_is_under:Binds K _ ["self","one","other"] []:=F_Row_is_under.binds (ps:=["self","one","other"]) fun _ _ _ _ _ _ us hl=>match us,hl with | [_,_,_],_=>rfl
  have F_Row_is_beside:=fun_mk (st:=s_Row_is_beside) l_Row_is_beside c_Row_is_beside k_Row_is_beside
  have B_Row_is_beside:Binds K _ ["self","one","other"] []:=F_Row_is_beside.binds (ps:=["self","one","other"]) fun _ _ _ _ _ _ us hl=>match us,hl with | [_,_,_],_=>rfl
  have F_Forest_init:=fun_mk (st:=s_Forest_init) l_Forest_init c_Forest_init k_Forest_init
  have B_Forest_init:Binds K _ ["self","nodes"] []:=F_Forest_init.binds (ps:=["self","nodes"]) fun _ _ _ _ _ _ us hl=>match us,hl with | [_,_],_=>rfl
  have F_Forest_many:=fun_mk (st:=s_Forest_many) l_Forest_many c_Forest_many k_Forest_many
  have B_Forest_many:Binds K _ ["self"] []:=F_Forest_many.binds (ps:=["self"]) fun _ _ _ _ _ _ us hl=>match us,hl with | [_],_=>rfl
  have F_Forest_standing:=fun_mk (st:=s_Forest_standing) l_Forest_standing c_Forest_standing k_Forest_standing
  have B_Forest_standing:Binds K _ ["self","mark"] []:=F_Forest_standing.binds (ps:=["self","mark"]) fun _ _ _ _ _ _ us hl=>match us,hl with | [_,_],_=>rfl
  have F_Forest_is_under:=fun_mk (st:=s_Forest_is_under) l_Forest_is_under c_Forest_is_under k_Forest_is_under
  have B_Forest_is_under:Binds K _ ["self","one","other"] []:=F_Forest_is_under.binds (ps:=["self","one","other"]) fun _ _ _ _ _ _ us hl=>match us,hl with | [_,_,_],_=>rfl
  have F_Forest_is_beside:=fun_mk (st:=s_Forest_is_beside) l_Forest_is_beside c_Forest_is_beside k_Forest_is_beside
  have B_Forest_is_beside:Binds K _ ["self","one","other"] []:=F_Forest_is_beside.binds (ps:=["self","one","other"]) fun _ _ _ _ _ _ us hl=>match us,hl with | [_,_,_],_=>rfl
  have F_Forest_hanging:=fun_mk (st:=s_Forest_hanging) l_Forest_hanging c_Forest_hanging k_Forest_hanging
  have B_Forest_hanging:Binds K _ ["self","place"] []:=F_Forest_hanging.binds (ps:=["self","place"]) fun _ _ _ _ _ _ us hl=>match us,hl with | [_,_],_=>rfl
  have F_Table_init:=fun_mk (st:=s_Table_init) l_Table_init c_Table_init k_Table_init
  have B_Table_init:Binds K _ ["self","lines"] []:=F_Table_init.binds (ps:=["self","lines"]) fun _ _ _ _ _ _ us hl=>match us,hl with | [_,_],_=>rfl
  have F_Table_is_under:=fun_mk (st:=s_Table_is_under) l_Table_is_under c_Table_is_under k_Table_is_under
  have B_Table_is_under:Binds K _ ["self","one","other"] []:=F_Table_is_under.binds (ps:=["self","one","other"]) fun _ _ _ _ _ _ us hl=>match us,hl with | [_,_,_],_=>rfl
  have F_Table_is_beside:=fun_mk (st:=s_Table_is_beside) l_Table_is_beside c_Table_is_beside k_Table_is_beside
  have B_Table_is_beside:Binds K _ ["self","one","other"] []:=F_Table_is_beside.binds (ps:=["self","one","other"]) fun _ _ _ _ _ _ us hl=>match us,hl with | [_,_,_],_=>rfl
  have F__law_cell_at:=fun_mk (st:=s__law_cell_at) l__law_cell_at c__law_cell_at k__law_cell_at
  have D__law_cell_at:Def K mg "_law_cell_at" s__law_cell_at ["_law_script","_law_k"] f__law_cell_at _:=⟨F__law_cell_at,PySem.W.mg_of X G a__law_cell_at,F__law_cell_at.binds (ps:=["_law_script","_law_k"]) fun _ _ _ _ _ _ us hl=>match us,hl with | [_,_],_=>rfl⟩
  have F__law_names:=fun_mk (st:=s__law_names) l__law_names c__law_names k__law_names
  have D__law_names:Def K mg "_law_names" s__law_names ["_law_cell","_law_many"] f__law_names _:=⟨F__law_names,PySem.W.mg_of X G a__law_names,F__law_names.binds (ps:=["_law_cell","_law_many"]) fun _ _ _ _ _ _ us hl=>match us,hl with | [_,_],_=>rfl⟩
  have F__law_data:=fun_mk (st:=s__law_data) l__law_data c__law_data k__law_data
  have D__law_data:Def K mg "_law_data" s__law_data ["_law_script","_law_begin","_law_kind","_law_many","_law_names_here"] f__law_data _:=⟨F__law_data,PySem.W.mg_of X G a__law_data,F__law_data.binds (ps:=["_law_script","_law_begin","_law_kind","_law_many","_law_names_here"]) fun _ _ _ _ _ _ us hl=>match us,hl with | [_,_,_,_,_],_=>rfl⟩
  have F__law_thing:=fun_mk (st:=s__law_thing) l__law_thing c__law_thing k__law_thing
  have D__law_thing:Def K mg "_law_thing" s__law_thing ["_law_kind","_law_data_here"] f__law_thing _:=⟨F__law_thing,PySem.W.mg_of X G a__law_thing,F__law_thing.binds (ps:=["_law_kind","_law_data_here"]) fun _ _ _ _ _ _ us hl=>match us,hl with | [_,_],_=>rfl⟩
  have F__law_spots:=fun_mk (st:=s__law_spots) l__law_spots c__law_spots k__law_spots
  have D__law_spots:Def K mg "_law_spots" s__law_spots ["_law_kind","_law_data_here"] f__law_spots _:=⟨F__law_spots,PySem.W.mg_of X G a__law_spots,F__law_spots.binds (ps:=["_law_kind","_law_data_here"]) fun _ _ _ _ _ _ us hl=>match us,hl with | [_,_],_=>rfl⟩
  have F__law_next_deep:=fun_mk (st:=s__law_next_deep) l__law_next_deep c__law_next_deep k__law_next_deep
  have D__law_next_deep:Def K mg "_law_next_deep" s__law_next_deep ["_law_data_here","_law_i"] f__law_next_deep _:=⟨F__law_next_deep,PySem.W.mg_of X G a__law_next_deep,F__law_next_deep.binds (ps:=["_law_data_here","_law_i"]) fun _ _ _ _ _ _ us hl=>match us,hl with | [_,_],_=>rfl⟩
  have F__law_pairs:=fun_mk (st:=s__law_pairs) l__law_pairs c__law_pairs k__law_pairs
  have D__law_pairs:Def K mg "_law_pairs" s__law_pairs ["_law_kind","_law_data_here","_law_word"] f__law_pairs _:=⟨F__law_pairs,PySem.W.mg_of X G a__law_pairs,F__law_pairs.binds (ps:=["_law_kind","_law_data_here","_law_word"]) fun _ _ _ _ _ _ us hl=>match us,hl with | [_,_,_],_=>rfl⟩
  have F__law_holds:=fun_mk (st:=s__law_holds) l__law_holds c__law_holds k__law_holds
  have D__law_holds:Def K mg "_law_holds" s__law_holds ["_law_kind","_law_data_here","_law_term_here"] f__law_holds _:=⟨F__law_holds,PySem.W.mg_of X G a__law_holds,F__law_holds.binds (ps:=["_law_kind","_law_data_here","_law_term_here"]) fun _ _ _ _ _ _ us hl=>match us,hl with | [_,_,_],_=>rfl⟩
  have F__law_leaf:=fun_mk (st:=s__law_leaf) l__law_leaf c__law_leaf k__law_leaf
  have D__law_leaf:Def K mg "_law_leaf" s__law_leaf ["_law_cell","_law_names_here"] f__law_leaf _:=⟨F__law_leaf,PySem.W.mg_of X G a__law_leaf,F__law_leaf.binds (ps:=["_law_cell","_law_names_here"]) fun _ _ _ _ _ _ us hl=>match us,hl with | [_,_],_=>rfl⟩
  have F__law_term:=fun_mk (st:=s__law_term) l__law_term c__law_term k__law_term
  have D__law_term:Def K mg "_law_term" s__law_term ["_law_script","_law_begin","_law_many","_law_names_here"] f__law_term _:=⟨F__law_term,PySem.W.mg_of X G a__law_term,F__law_term.binds (ps:=["_law_script","_law_begin","_law_many","_law_names_here"]) fun _ _ _ _ _ _ us hl=>match us,hl with | [_,_,_,_],_=>rfl⟩
  have F__law_fault:=fun_mk (st:=s__law_fault) l__law_fault c__law_fault k__law_fault
  have D__law_fault:Def K mg "_law_fault" s__law_fault ["_law_term_here"] f__law_fault _:=⟨F__law_fault,PySem.W.mg_of X G a__law_fault,F__law_fault.binds (ps:=["_law_term_here"]) fun _ _ _ _ _ _ us hl=>match us,hl with | [_],_=>rfl⟩
  have F__law_whole_term:=fun_mk (st:=s__law_whole_term) l__law_whole_term c__law_whole_term k__law_whole_term
  have D__law_whole_term:Def K mg "_law_whole_term" s__law_whole_term ["_law_kind","_law_data_here","_law_term_here"] f__law_whole_term _:=⟨F__law_whole_term,PySem.W.mg_of X G a__law_whole_term,F__law_whole_term.binds (ps:=["_law_kind","_law_data_here","_law_term_here"]) fun _ _ _ _ _ _ us hl=>match us,hl with | [_,_,_],_=>rfl⟩
  have F_law:=fun_mk (st:=s_law) l_law c_law k_law
  have D_law:Def K mg "law" s_law ["_law_script"] fa _:=⟨F_law,PySem.W.mg_of X G a_law,F_law.binds (ps:=["_law_script"]) fun _ _ _ _ _ _ us hl=>match us,hl with | [_],_=>rfl⟩
  have M_All:Mk K C_All f_Joint_init:=⟨m1_All,mi_All,n_Joint_init,m2_All⟩
  have M_Any:Mk K C_Any f_Joint_init:=⟨m1_Any,mi_Any,n_Joint_init,m2_Any⟩
  have M_Before:Mk K C_Before f_Pair_init:=⟨m1_Before,mi_Before,n_Pair_init,m2_Before⟩
  have M_Beside:Mk K C_Beside f_Pair_init:=⟨m1_Beside,mi_Beside,n_Pair_init,m2_Beside⟩
  have M_Forest:Mk K C_Forest f_Forest_init:=⟨m1_Forest,mi_Forest,n_Forest_init,m2_Forest⟩
  have M_Has:Mk K C_Has f_Has_init:=⟨m1_Has,mi_Has,n_Has_init,m2_Has⟩
  have M_Many:Mk K C_Many f_Many_init:=⟨m1_Many,mi_Many,n_Many_init,m2_Many⟩
  have M_Not:Mk K C_Not f_Not_init:=⟨m1_Not,mi_Not,n_Not_init,m2_Not⟩
  have M_Row:Mk K C_Row f_Row_init:=⟨m1_Row,mi_Row,n_Row_init,m2_Row⟩
  have M_Table:Mk K C_Table f_Table_init:=⟨m1_Table,mi_Table,n_Table_init,m2_Table⟩
  have M_Under:Mk K C_Under f_Pair_init:=⟨m1_Under,mi_Under,n_Pair_init,m2_Under⟩
  have CM_Thing_init:ClsM K C_Thing "__init__" f_Thing_init:=⟨th1_Thing,th2_Thing,a_Thing_init,k_Thing_init⟩
  have ME_Row_many_of:Meth K C_Row "many_of" f_Thing_many_of:=⟨i_Row_many_of,n_Thing_many_of,k_Thing_many_of⟩
  have ME_Forest_many_of:Meth K C_Forest "many_of" f_Thing_many_of:=⟨i_Forest_many_of,n_Thing_many_of,k_Thing_many_of⟩
  have ME_Table_many_of:Meth K C_Table "many_of" f_Thing_many_of:=⟨i_Table_many_of,n_Thing_many_of,k_Thing_many_of⟩
  have ME_Row_is_before:Meth K C_Row "is_before" f_Thing_is_before:=⟨i_Row_is_before,n_Thing_is_before,k_Thing_is_before⟩
  have ME_Forest_is_before:Meth K C_Forest "is_before" f_Thing_is_before:=⟨i_Forest_is_before,n_Thing_is_before,k_Thing_is_before⟩
  have ME_Table_is_before:Meth K C_Table "is_before" f_Thing_is_before:=⟨i_Table_is_before,n_Thing_is_before,k_Thing_is_before⟩
  have ME_Row_is_under:Meth K C_Row "is_under" f_Row_is_under:=⟨i_Row_is_under,n_Row_is_under,k_Row_is_under⟩
  have ME_Forest_is_under:Meth K C_Forest "is_under" f_Forest_is_under:=⟨i_Forest_is_under,n_Forest_is_under,k_Forest_is_under⟩
  have ME_Table_is_under:Meth K C_Table "is_under" f_Table_is_under:=⟨i_Table_is_under,n_Table_is_under,k_Table_is_under⟩
  have ME_Row_is_beside:Meth K C_Row "is_beside" f_Row_is_beside:=⟨i_Row_is_beside,n_Row_is_beside,k_Row_is_beside⟩
  have ME_Forest_is_beside:Meth K C_Forest "is_beside" f_Forest_is_beside:=⟨i_Forest_is_beside,n_Forest_is_beside,k_Forest_is_beside⟩
  have ME_Table_is_beside:Meth K C_Table "is_beside" f_Table_is_beside:=⟨i_Table_is_beside,n_Table_is_beside,k_Table_is_beside⟩
  have ME_Has_holds:Meth K C_Has "holds" f_Has_holds:=⟨i_Has_holds,n_Has_holds,k_Has_holds⟩
  have ME_Many_holds:Meth K C_Many "holds" f_Many_holds:=⟨i_Many_holds,n_Many_holds,k_Many_holds⟩
  have ME_Before_holds:Meth K C_Before "holds" f_Before_holds:=⟨i_Before_holds,n_Before_holds,k_Before_holds⟩
  have ME_Under_holds:Meth K C_Under "holds" f_Under_holds:=⟨i_Under_holds,n_Under_holds,k_Under_holds⟩
  have ME_Beside_holds:Meth K C_Beside "holds" f_Beside_holds:=⟨i_Beside_holds,n_Beside_holds,k_Beside_holds⟩
  have ME_All_holds:Meth K C_All "holds" f_All_holds:=⟨i_All_holds,n_All_holds,k_All_holds⟩
  have ME_Any_holds:Meth K C_Any "holds" f_Any_holds:=⟨i_Any_holds,n_Any_holds,k_Any_holds⟩
  have ME_Not_holds:Meth K C_Not "holds" f_Not_holds:=⟨i_Not_holds,n_Not_holds,k_Not_holds⟩
  have ME_Forest_standing:Meth K C_Forest "standing" f_Forest_standing:=⟨i_Forest_standing,n_Forest_standing,k_Forest_standing⟩
  have ME_Forest_hanging:Meth K C_Forest "hanging" f_Forest_hanging:=⟨i_Forest_hanging,n_Forest_hanging,k_Forest_hanging⟩
  have ME_Forest_many:Meth K C_Forest "many" f_Forest_many:=⟨i_Forest_many,n_Forest_many,k_Forest_many⟩
  refine ⟨PySem.W.fnOf "law" "law" (defArgs s_law) (defBody s_law) (defScope s_law) .none kV_law dc_law pm_law an_law cd_law ct_law,fun s v=>.of_eq rfl,fun base _ _=>?_⟩
  have G_Has_init:FnOk l.prog w K mg base CX0 1 f_Has_init _ ["self","mark"] (sp_Has_init ⟨C_Fault,C_Has,C_Many,C_Pair,C_Before,C_Under,C_Beside,C_Joint,C_All,C_Any,C_Not,C_ShrinkError,C_NoThing,C_Thing,C_Row,C_Forest,C_Table⟩):=ok_Has_init F_Has_init T
  have G_Thing_many_of:FnOk l.prog w K mg base CX0 1 f_Thing_many_of _ ["self","mark"] (sp_many_of ⟨C_Fault,C_Has,C_Many,C_Pair,C_Before,C_Under,C_Beside,C_Joint,C_All,C_Any,C_Not,C_ShrinkError,C_NoThing,C_Thing,C_Row,C_Forest,C_Table⟩):=ok_Thing_many_of F_Thing_many_of T
  have G_Has_holds:FnOk l.prog w K mg base CX0 2 f_Has_holds _ ["self","thing"] (sp_Has_holds ⟨C_Fault,C_Has,C_Many,C_Pair,C_Before,C_Under,C_Beside,C_Joint,C_All,C_Any,C_Not,C_ShrinkError,C_NoThing,C_Thing,C_Row,C_Forest,C_Table⟩):=ok_Has_holds F_Has_holds T G_Thing_many_of B_Thing_many_of ME_Row_many_of ME_Forest_many_of ME_Table_many_of
  have G_Many_init:FnOk l.prog w K mg base CX0 1 f_Many_init _ ["self","number","mark"] (sp_Many_init ⟨C_Fault,C_Has,C_Many,C_Pair,C_Before,C_Under,C_Beside,C_Joint,C_All,C_Any,C_Not,C_ShrinkError,C_NoThing,C_Thing,C_Row,C_Forest,C_Table⟩):=ok_Many_init F_Many_init T
  have G_Many_holds:FnOk l.prog w K mg base CX0 2 f_Many_holds _ ["self","thing"] (sp_Many_holds ⟨C_Fault,C_Has,C_Many,C_Pair,C_Before,C_Under,C_Beside,C_Joint,C_All,C_Any,C_Not,C_ShrinkError,C_NoThing,C_Thing,C_Row,C_Forest,C_Table⟩):=ok_Many_holds F_Many_holds T G_Thing_many_of B_Thing_many_of ME_Row_many_of ME_Forest_many_of ME_Table_many_of
  have G_Pair_init:FnOk l.prog w K mg base CX0 1 f_Pair_init _ ["self","one","other"] (sp_Pair_init ⟨C_Fault,C_Has,C_Many,C_Pair,C_Before,C_Under,C_Beside,C_Joint,C_All,C_Any,C_Not,C_ShrinkError,C_NoThing,C_Thing,C_Row,C_Forest,C_Table⟩):=ok_Pair_init F_Pair_init T
  have G_stands_ahead:FnOk l.prog w K mg base CX0 1 f_stands_ahead _ ["marks","one","other"] (sp_stands_ahead K):=ok_stands_ahead D_stands_ahead T
  have G_Thing_is_before:FnOk l.prog w K mg base CX0 2 f_Thing_is_before _ ["self","one","other"] (sp_is_before ⟨C_Fault,C_Has,C_Many,C_Pair,C_Before,C_Under,C_Beside,C_Joint,C_All,C_Any,C_Not,C_ShrinkError,C_NoThing,C_Thing,C_Row,C_Forest,C_Table⟩):=ok_Thing_is_before F_Thing_is_before T G_stands_ahead D_stands_ahead
  have G_Before_holds:FnOk l.prog w K mg base CX0 3 f_Before_holds _ ["self","thing"] (sp_Before_holds ⟨C_Fault,C_Has,C_Many,C_Pair,C_Before,C_Under,C_Beside,C_Joint,C_All,C_Any,C_Not,C_ShrinkError,C_NoThing,C_Thing,C_Row,C_Forest,C_Table⟩):=ok_Before_holds F_Before_holds T G_Thing_is_before B_Thing_is_before ME_Row_is_before ME_Forest_is_before ME_Table_is_before
  have G_Row_is_under:FnOk l.prog w K mg base CX0 1 f_Row_is_under _ ["self","one","other"] sp_Row_is_under:=ok_Row_is_under F_Row_is_under T
  have G_places_of:FnOk l.prog w K mg base CX0 1 f_places_of _ ["marks","mark"] (sp_places_of K):=ok_places_of D_places_of T
  have G_Forest_standing:FnOk l.prog w K mg base CX0 2 f_Forest_standing _ ["self","mark"] (sp_Forest_standing ⟨C_Fault,C_Has,C_Many,C_Pair,C_Before,C_Under,C_Beside,C_Joint,C_All,C_Any,C_Not,C_ShrinkError,C_NoThing,C_Thing,C_Row,C_Forest,C_Table⟩):=ok_Forest_standing F_Forest_standing T G_places_of D_places_of
  have G_marks_at:FnOk l.prog w K mg base CX0 1 f_marks_at _ ["marks","places"] (sp_marks_at K):=ok_marks_at D_marks_at T
  have G_Forest_many:FnOk l.prog w K mg base CX0 1 f_Forest_many _ ["self"] (sp_many ⟨C_Fault,C_Has,C_Many,C_Pair,C_Before,C_Under,C_Beside,C_Joint,C_All,C_Any,C_Not,C_ShrinkError,C_NoThing,C_Thing,C_Row,C_Forest,C_Table⟩):=ok_Forest_many F_Forest_many T
  have G_Forest_hanging:FnOk l.prog w K mg base CX0 2 f_Forest_hanging _ ["self","place"] (sp_Forest_hanging ⟨C_Fault,C_Has,C_Many,C_Pair,C_Before,C_Under,C_Beside,C_Joint,C_All,C_Any,C_Not,C_ShrinkError,C_NoThing,C_Thing,C_Row,C_Forest,C_Table⟩):=ok_Forest_hanging F_Forest_hanging T G_Forest_many B_Forest_many ME_Forest_many
  have G_Forest_is_under:FnOk l.prog w K mg base CX0 3 f_Forest_is_under _ ["self","one","other"] (sp_Forest_is_under ⟨C_Fault,C_Has,C_Many,C_Pair,C_Before,C_Under,C_Beside,C_Joint,C_All,C_Any,C_Not,C_ShrinkError,C_NoThing,C_Thing,C_Row,C_Forest,C_Table⟩):=ok_Forest_is_under F_Forest_is_under T G_Forest_standing G_marks_at G_Forest_hanging D_marks_at B_Forest_standing B_Forest_hanging ME_Forest_standing ME_Forest_hanging
  have G_Table_is_under:FnOk l.prog w K mg base CX0 2 f_Table_is_under _ ["self","one","other"] (sp_Table_is_under ⟨C_Fault,C_Has,C_Many,C_Pair,C_Before,C_Under,C_Beside,C_Joint,C_All,C_Any,C_Not,C_ShrinkError,C_NoThing,C_Thing,C_Row,C_Forest,C_Table⟩):=ok_Table_is_under F_Table_is_under T G_stands_ahead D_stands_ahead
  have G_Under_holds:FnOk l.prog w K mg base CX0 4 f_Under_holds _ ["self","thing"] (sp_Under_holds ⟨C_Fault,C_Has,C_Many,C_Pair,C_Before,C_Under,C_Beside,C_Joint,C_All,C_Any,C_Not,C_ShrinkError,C_NoThing,C_Thing,C_Row,C_Forest,C_Table⟩):=ok_Under_holds F_Under_holds T G_Row_is_under G_Forest_is_under G_Table_is_under B_Row_is_under B_Forest_is_under B_Table_is_under ME_Row_is_under ME_Forest_is_under ME_Table_is_under
  have G_stands_right_ahead:FnOk l.prog w K mg base CX0 1 f_stands_right_ahead _ ["marks","one","other"] sp_stands_right_ahead:=ok_stands_right_ahead D_stands_right_ahead T
  have G_Row_is_beside:FnOk l.prog w K mg base CX0 2 f_Row_is_beside _ ["self","one","other"] (sp_Row_is_beside ⟨C_Fault,C_Has,C_Many,C_Pair,C_Before,C_Under,C_Beside,C_Joint,C_All,C_Any,C_Not,C_ShrinkError,C_NoThing,C_Thing,C_Row,C_Forest,C_Table⟩):=ok_Row_is_beside F_Row_is_beside T G_stands_right_ahead D_stands_right_ahead
  have G_Forest_is_beside:FnOk l.prog w K mg base CX0 3 f_Forest_is_beside _ ["self","one","other"] (sp_Forest_is_beside ⟨C_Fault,C_Has,C_Many,C_Pair,C_Before,C_Under,C_Beside,C_Joint,C_All,C_Any,C_Not,C_ShrinkError,C_NoThing,C_Thing,C_Row,C_Forest,C_Table⟩):=ok_Forest_is_beside F_Forest_is_beside T G_Forest_standing G_Forest_hanging G_Forest_many B_Forest_standing B_Forest_hanging B_Forest_many ME_Forest_standing ME_Forest_hanging ME_Forest_many
  have G_Table_is_beside:FnOk l.prog w K mg base CX0 2 f_Table_is_beside _ ["self","one","other"] (sp_Table_is_beside ⟨C_Fault,C_Has,C_Many,C_Pair,C_Before,C_Under,C_Beside,C_Joint,C_All,C_Any,C_Not,C_ShrinkError,C_NoThing,C_Thing,C_Row,C_Forest,C_Table⟩):=ok_Table_is_beside F_Table_is_beside T G_stands_right_ahead D_stands_right_ahead
  have G_Beside_holds:FnOk l.prog w K mg base CX0 4 f_Beside_holds _ ["self","thing"] (sp_Beside_holds ⟨C_Fault,C_Has,C_Many,C_Pair,C_Before,C_Under,C_Beside,C_Joint,C_All,C_Any,C_Not,C_ShrinkError,C_NoThing,C_Thing,C_Row,C_Forest,C_Table⟩):=ok_Beside_holds F_Beside_holds T G_Row_is_beside G_Forest_is_beside G_Table_is_beside B_Row_is_beside B_Forest_is_beside B_Table_is_beside ME_Row_is_beside ME_Forest_is_beside ME_Table_is_beside
  have G_Joint_init:FnOk l.prog w K mg base CX0 1 f_Joint_init _ ["self","parts"] (sp_Joint_init K ⟨C_Fault,C_Has,C_Many,C_Pair,C_Before,C_Under,C_Beside,C_Joint,C_All,C_Any,C_Not,C_ShrinkError,C_NoThing,C_Thing,C_Row,C_Forest,C_Table⟩):=ok_Joint_init F_Joint_init T
  have GR_0:∀ n:Nat,(FnOk l.prog w K mg base CX0 (n + 5) f_All_holds (PySem.W.fnOf "holds" "All.holds" (defArgs s_All_holds) (defBody s_All_holds) (defScope s_All_holds) .none kV_All_holds dc_All_holds pm_All_holds an_All_holds cd_All_holds ct_All_holds) ["self","thing"] (sp_All_holds ⟨C_Fault,C_Has,C_Many,C_Pair,C_Before,C_Under,C_Beside,C_Joint,C_All,C_Any,C_Not,C_ShrinkError,C_NoThing,C_Thing,C_Row,C_Forest,C_Table⟩ n)) ∧ (FnOk l.prog w K mg base CX0 (n + 5) f_Any_holds (PySem.W.fnOf "holds" "Any.holds" (defArgs s_Any_holds) (defBody s_Any_holds) (defScope s_Any_holds) .none kV_Any_holds dc_Any_holds pm_Any_holds an_Any_holds cd_Any_holds ct_Any_holds) ["self","thing"] (sp_Any_holds ⟨C_Fault,C_Has,C_Many,C_Pair,C_Before,C_Under,C_Beside,C_Joint,C_All,C_Any,C_Not,C_ShrinkError,C_NoThing,C_Thing,C_Row,C_Forest,C_Table⟩ n)) ∧ (FnOk l.prog w K mg base CX0 (n + 5) f_Not_holds (PySem.W.fnOf "holds" "Not.holds" (defArgs s_Not_holds) (defBody s_Not_holds) (defScope s_Not_holds) .none kV_Not_holds dc_Not_holds pm_Not_holds an_Not_holds cd_Not_holds ct_Not_holds) ["self","thing"] (sp_Not_holds ⟨C_Fault,C_Has,C_Many,C_Pair,C_Before,C_Under,C_Beside,C_Joint,C_All,C_Any,C_Not,C_ShrinkError,C_NoThing,C_Thing,C_Row,C_Forest,C_Table⟩ n)):=by
    intro n
    induction n with
    | zero=>exact ⟨F_All_holds.ok sc_All_holds (fun vs H Q E h=>by obtain ⟨_,_,_,_,_,_,_,_,h,_⟩:=h; exact (absurd h (Nat.not_lt_zero _))) (fun cdv A outer s H vs Q E hr h=>by obtain ⟨_,_,_,_,_,_,_,_,h,_⟩:=h; exact (absurd h (Nat.not_lt_zero _))),F_Any_holds.ok sc_Any_holds (fun vs H Q E h=>by obtain ⟨_,_,_,_,_,_,_,_,h,_⟩:=h; exact (absurd h (Nat.not_lt_zero _))) (fun cdv A outer s H vs Q E hr h=>by obtain ⟨_,_,_,_,_,_,_,_,h,_⟩:=h; exact (absurd h (Nat.not_lt_zero _))),F_Not_holds.ok sc_Not_holds (fun vs H Q E h=>by obtain ⟨_,_,_,_,_,_,_,_,h,_⟩:=h; exact (absurd h (Nat.not_lt_zero _))) (fun cdv A outer s H vs Q E hr h=>by obtain ⟨_,_,_,_,_,_,_,_,h,_⟩:=h; exact (absurd h (Nat.not_lt_zero _)))⟩
    | succ n ih =>
      obtain ⟨G_All_holds,G_Any_holds,G_Not_holds⟩:=ih
      exact ⟨ok_All_holds F_All_holds T G_Has_holds G_Many_holds G_Before_holds G_Under_holds G_Beside_holds G_All_holds G_Any_holds G_Not_holds B_Has_holds B_Many_holds B_Before_holds B_Under_holds B_Beside_holds B_All_holds B_Any_holds B_Not_holds ME_Has_holds ME_Many_holds ME_Before_holds ME_Under_holds ME_Beside_holds ME_All_holds ME_Any_holds ME_Not_holds,ok_Any_holds F_Any_holds T G_Has_holds G_Many_holds G_Before_holds G_Under_holds G_Beside_holds G_All_holds G_Any_holds G_Not_holds B_Has_holds B_Many_holds B_Before_holds B_Under_holds B_Beside_holds B_All_holds B_Any_holds B_Not_holds ME_Has_holds ME_Many_holds ME_Before_holds ME_Under_holds ME_Beside_holds ME_All_holds ME_Any_holds ME_Not_holds,ok_Not_holds F_Not_holds T G_Has_holds G_Many_holds G_Before_holds G_Under_holds G_Beside_holds G_All_holds G_Any_holds G_Not_holds B_Has_holds B_Many_holds B_Before_holds B_Under_holds B_Beside_holds B_All_holds B_Any_holds B_Not_holds ME_Has_holds ME_Many_holds ME_Before_holds ME_Under_holds ME_Beside_holds ME_All_holds ME_Any_holds ME_Not_holds⟩
  obtain ⟨G_All_holds,G_Any_holds,G_Not_holds⟩:=GR_0 10
  have G_Not_init:FnOk l.prog w K mg base CX0 1 f_Not_init _ ["self","part"] (sp_Not_init ⟨C_Fault,C_Has,C_Many,C_Pair,C_Before,C_Under,C_Beside,C_Joint,C_All,C_Any,C_Not,C_ShrinkError,C_NoThing,C_Thing,C_Row,C_Forest,C_Table⟩):=ok_Not_init F_Not_init T
  have G_is_whole:FnOk l.prog w K mg base CX0 1 f_is_whole _ ["thing"] sp_is_whole:=ok_is_whole D_is_whole T
  have G_is_mark:FnOk l.prog w K mg base CX0 1 f_is_mark _ ["thing"] sp_is_mark:=ok_is_mark D_is_mark T
  have G_check_list:FnOk l.prog w K mg base (CX1 l.prog w) 1 f_check_list _ ["thing","most"] (sp_check_list ⟨C_Fault,C_Has,C_Many,C_Pair,C_Before,C_Under,C_Beside,C_Joint,C_All,C_Any,C_Not,C_ShrinkError,C_NoThing,C_Thing,C_Row,C_Forest,C_Table⟩):=ok_check_list D_check_list T
  have G_check_marks:FnOk l.prog w K mg base (CX1 l.prog w) 2 f_check_marks _ ["marks","most"] (sp_check_marks ⟨C_Fault,C_Has,C_Many,C_Pair,C_Before,C_Under,C_Beside,C_Joint,C_All,C_Any,C_Not,C_ShrinkError,C_NoThing,C_Thing,C_Row,C_Forest,C_Table⟩):=ok_check_marks D_check_marks T G_check_list G_is_mark D_check_list D_is_mark
  have G_check_node:FnOk l.prog w K mg base (CX1 l.prog w) 2 f_check_node _ ["node","deepest"] (sp_check_node ⟨C_Fault,C_Has,C_Many,C_Pair,C_Before,C_Under,C_Beside,C_Joint,C_All,C_Any,C_Not,C_ShrinkError,C_NoThing,C_Thing,C_Row,C_Forest,C_Table⟩):=ok_check_node D_check_node T G_is_mark G_is_whole D_is_mark D_is_whole
  have G_check_nodes:FnOk l.prog w K mg base (CX1 l.prog w) 3 f_check_nodes _ ["nodes"] (sp_check_nodes ⟨C_Fault,C_Has,C_Many,C_Pair,C_Before,C_Under,C_Beside,C_Joint,C_All,C_Any,C_Not,C_ShrinkError,C_NoThing,C_Thing,C_Row,C_Forest,C_Table⟩):=ok_check_nodes D_check_nodes T G_check_list G_check_node D_check_list D_check_node
  have G_check_lines:FnOk l.prog w K mg base (CX1 l.prog w) 3 f_check_lines _ ["lines"] (sp_check_lines ⟨C_Fault,C_Has,C_Many,C_Pair,C_Before,C_Under,C_Beside,C_Joint,C_All,C_Any,C_Not,C_ShrinkError,C_NoThing,C_Thing,C_Row,C_Forest,C_Table⟩):=ok_check_lines D_check_lines T G_check_list G_check_marks D_check_list D_check_marks
  have G_Thing_init:FnOk l.prog w K mg base CX0 1 f_Thing_init _ ["self","spot_marks"] (sp_Thing_init ⟨C_Fault,C_Has,C_Many,C_Pair,C_Before,C_Under,C_Beside,C_Joint,C_All,C_Any,C_Not,C_ShrinkError,C_NoThing,C_Thing,C_Row,C_Forest,C_Table⟩):=ok_Thing_init F_Thing_init T
  have G_Row_init:FnOk l.prog w K mg base (CX1 l.prog w) 3 f_Row_init _ ["self","marks"] (sp_Row_init ⟨C_Fault,C_Has,C_Many,C_Pair,C_Before,C_Under,C_Beside,C_Joint,C_All,C_Any,C_Not,C_ShrinkError,C_NoThing,C_Thing,C_Row,C_Forest,C_Table⟩):=ok_Row_init F_Row_init T G_check_marks G_Thing_init D_check_marks B_Thing_init CM_Thing_init
  have G_Forest_init:FnOk l.prog w K mg base (CX1 l.prog w) 4 f_Forest_init _ ["self","nodes"] (sp_Forest_init ⟨C_Fault,C_Has,C_Many,C_Pair,C_Before,C_Under,C_Beside,C_Joint,C_All,C_Any,C_Not,C_ShrinkError,C_NoThing,C_Thing,C_Row,C_Forest,C_Table⟩):=ok_Forest_init F_Forest_init T G_check_nodes G_Thing_init D_check_nodes B_Thing_init CM_Thing_init
  have G_Table_init:FnOk l.prog w K mg base (CX1 l.prog w) 4 f_Table_init _ ["self","lines"] (sp_Table_init ⟨C_Fault,C_Has,C_Many,C_Pair,C_Before,C_Under,C_Beside,C_Joint,C_All,C_Any,C_Not,C_ShrinkError,C_NoThing,C_Thing,C_Row,C_Forest,C_Table⟩):=ok_Table_init F_Table_init T G_check_lines G_Thing_init D_check_lines B_Thing_init CM_Thing_init
  have G__law_cell_at:FnOk l.prog w K mg base CX0 1 f__law_cell_at _ ["_law_script","_law_k"] (sp__law_cell_at K):=ok__law_cell_at D__law_cell_at T
  have G__law_names:FnOk l.prog w K mg base CX0 1 f__law_names _ ["_law_cell","_law_many"] sp__law_names:=ok__law_names D__law_names T
  have G__law_data:FnOk l.prog w K mg base CX0 2 f__law_data _ ["_law_script","_law_begin","_law_kind","_law_many","_law_names_here"] (sp__law_data K):=ok__law_data D__law_data T G__law_cell_at D__law_cell_at
  have G__law_thing:FnOk l.prog w K mg base CX0 6 f__law_thing _ ["_law_kind","_law_data_here"] (sp__law_thing ⟨C_Fault,C_Has,C_Many,C_Pair,C_Before,C_Under,C_Beside,C_Joint,C_All,C_Any,C_Not,C_ShrinkError,C_NoThing,C_Thing,C_Row,C_Forest,C_Table⟩):=ok__law_thing D__law_thing T G_Row_init G_Forest_init G_Table_init B_Row_init B_Forest_init B_Table_init M_Row M_Forest M_Table
  have G__law_spots:FnOk l.prog w K mg base CX0 1 f__law_spots _ ["_law_kind","_law_data_here"] sp__law_spots:=ok__law_spots D__law_spots T
  have G__law_next_deep:FnOk l.prog w K mg base CX0 1 f__law_next_deep _ ["_law_data_here","_law_i"] sp__law_next_deep:=ok__law_next_deep D__law_next_deep T
  have G__law_pairs:FnOk l.prog w K mg base CX0 2 f__law_pairs _ ["_law_kind","_law_data_here","_law_word"] sp__law_pairs:=ok__law_pairs D__law_pairs T G__law_spots G__law_next_deep D__law_spots D__law_next_deep
  have GR_1:∀ n:Nat,(FnOk l.prog w K mg base CX0 (n + 3) f__law_holds (PySem.W.fnOf "_law_holds" "_law_holds" (defArgs s__law_holds) (defBody s__law_holds) (defScope s__law_holds) .none kV__law_holds dc__law_holds pm__law_holds an__law_holds cd__law_holds ct__law_holds) ["_law_kind","_law_data_here","_law_term_here"] (sp__law_holds n)):=by
    intro n
    induction n with
    | zero=>exact D__law_holds.F.ok sc__law_holds (fun vs H Q E h=>by obtain ⟨_,_,_,_,_,_,_,_,_,h,_⟩:=h; exact (absurd h (Nat.not_lt_zero _))) (fun cdv A outer s H vs Q E hr h=>by obtain ⟨_,_,_,_,_,_,_,_,_,h,_⟩:=h; exact (absurd h (Nat.not_lt_zero _)))
    | succ n ih =>
      have G__law_holds:=ih
      exact ok__law_holds D__law_holds T G__law_spots G__law_holds G__law_pairs D__law_spots D__law_holds D__law_pairs
  have G__law_holds:=GR_1 10
  have G__law_leaf:FnOk l.prog w K mg base CX0 1 f__law_leaf _ ["_law_cell","_law_names_here"] sp__law_leaf:=ok__law_leaf D__law_leaf T
  have G__law_term:FnOk l.prog w K mg base CX0 2 f__law_term _ ["_law_script","_law_begin","_law_many","_law_names_here"] (sp__law_term K):=ok__law_term D__law_term T G__law_leaf G__law_cell_at D__law_leaf D__law_cell_at
  have GR_2:∀ n:Nat,(FnOk l.prog w K mg base CX0 (n + 3) f__law_fault (PySem.W.fnOf "_law_fault" "_law_fault" (defArgs s__law_fault) (defBody s__law_fault) (defScope s__law_fault) .none kV__law_fault dc__law_fault pm__law_fault an__law_fault cd__law_fault ct__law_fault) ["_law_term_here"] (sp__law_fault ⟨C_Fault,C_Has,C_Many,C_Pair,C_Before,C_Under,C_Beside,C_Joint,C_All,C_Any,C_Not,C_ShrinkError,C_NoThing,C_Thing,C_Row,C_Forest,C_Table⟩ n)):=by
    intro n
    induction n with
    | zero=>exact D__law_fault.F.ok sc__law_fault (fun vs H Q E h=>by obtain ⟨_,_,_,_,_,h,_⟩:=h; exact (absurd h (Nat.not_lt_zero _))) (fun cdv A outer s H vs Q E hr h=>by obtain ⟨_,_,_,_,_,h,_⟩:=h; exact (absurd h (Nat.not_lt_zero _)))
    | succ n ih =>
      have G__law_fault:=ih
      exact ok__law_fault D__law_fault T G_Has_init G_Many_init G_Pair_init G_Not_init G__law_fault G_Joint_init D__law_fault B_Has_init B_Many_init B_Pair_init B_Not_init B_Joint_init M_Has M_Many M_Before M_Under M_Beside M_Not M_All M_Any
  have G__law_fault:=GR_2 10
  have GR_3:∀ n:Nat,(FnOk l.prog w K mg base CX0 (n + 16) f__law_whole_term (PySem.W.fnOf "_law_whole_term" "_law_whole_term" (defArgs s__law_whole_term) (defBody s__law_whole_term) (defScope s__law_whole_term) .none kV__law_whole_term dc__law_whole_term pm__law_whole_term an__law_whole_term cd__law_whole_term ct__law_whole_term) ["_law_kind","_law_data_here","_law_term_here"] (sp__law_whole_term n)):=by
    intro n
    induction n with
    | zero=>exact D__law_whole_term.F.ok sc__law_whole_term (fun vs H Q E h=>by obtain ⟨_,_,_,_,_,_,_,_,_,h,_⟩:=h; exact (absurd h (Nat.not_lt_zero _))) (fun cdv A outer s H vs Q E hr h=>by obtain ⟨_,_,_,_,_,_,_,_,_,h,_⟩:=h; exact (absurd h (Nat.not_lt_zero _)))
    | succ n ih =>
      have G__law_whole_term:=ih
      exact ok__law_whole_term D__law_whole_term T G__law_fault G_Has_holds G__law_thing G_Many_holds G_Before_holds G_Under_holds G_Beside_holds G_All_holds G_Any_holds G_Not_holds G__law_holds G__law_whole_term D__law_fault D__law_thing D__law_holds D__law_whole_term B_Has_holds B_Many_holds B_Before_holds B_Under_holds B_Beside_holds B_All_holds B_Any_holds B_Not_holds ME_Has_holds ME_Many_holds ME_Before_holds ME_Under_holds ME_Beside_holds ME_All_holds ME_Any_holds ME_Not_holds
  have G__law_whole_term:=GR_3 10
  exact ok_law D_law T G__law_cell_at G__law_names G__law_data G__law_term G__law_whole_term D__law_cell_at D__law_names D__law_data D__law_term D__law_whole_term
theorem walk {l:PySem.W.OpenLaw} {q:Program} {loose:List Str} {XP:(Str → Option Value) → Heap → Prop} {YP:World → Heap → Prop} {d:DefRec} {K:Params → PySem.W.Frag} (hn:l.most = some 63) (hdf:d.params.defaults = [])
    (hY:∀ (w:World) (h:Heap),YP w h → (K w.params).In h)
    (F:∀ (w:World) (mg:Str → Option Value) (fa:Addr) (h:Heap),(K w.params).In h → h.Ns mainGlobals mg → mg d.name = some (.ref fa) →
      ∃ fd:FuncData,(∀ (s:Shared) (u:Value),BindsTo s fd ⟨[u],[]⟩ [("_law_script",u)]) ∧ ∀ base:Heap,(K w.params).In base → base.Ns mainGlobals mg → FnOk l.prog w (K w.params) mg base CX0 27 fa fd ["_law_script"] (sp_law (K w.params))) :
    PySem.W.WalkO q loose XP YP l.row.toRowW d [] (fun f vs=>PySem.call f vs) :=
  L2.walk_of (n:=63) (k:=27) (x:="_law_script") (CX:=fun _=>CX0) (sp:=fun w=>sp_law (K w.params)) hn (by decide) hdf ⟨rfl,by decide,by decide⟩ hY F (fun _ _ a ns hl _ hS=>⟨a,ns,rfl,hS,hl,fun _=>rfl⟩) fun _ _ _ _ _ z=>z
end K10
def PySem.W.Fast.tw2364892890930108997:Nat:=0
def PySem.W.Fast.tw6038412696663529110:Nat:=0
def PySem.W.Fast.tw15144996718413236265:Nat:=0
def PySem.W.Fast.tw18292759087117940491:Nat:=0
def PySem.W.Fast.tw5031851301419259322:Nat:=0
def PySem.W.Fast.tw12583911601764918387:Nat:=0
def PySem.W.Fast.tw15360500155314510907:Nat:=0
def PySem.W.Fast.tw5378489397901229956:Nat:=0
def PySem.W.Fast.tw16045365198475581831:Nat:=0
def PySem.W.Fast.tw8899886824241982175:Nat:=0
def PySem.W.Fast.tw5290322680710270641:Nat:=0
def PySem.W.Fast.tw13989369827393640020:Nat:=0
def PySem.W.Fast.tw12792643464534665124:Nat:=0
def PySem.W.Fast.tw11869356867868370506:Nat:=0
def PySem.W.Fast.tw11377338810278862314:Nat:=0
def PySem.W.Fast.tw11527155729605432747:Nat:=0
def PySem.W.Fast.tw1908854052612837211:Nat:=0
def PySem.W.Fast.tw11235304085720103455:Nat:=0
def PySem.W.Fast.tw11389454413487188698:Nat:=0
def PySem.W.Fast.tw18197207764616596421:Nat:=0
def PySem.W.Fast.tw11692583227695624705:Nat:=0
def PySem.W.Fast.tw3896730016963754650:Nat:=0
def PySem.W.Fast.tw13580806773711934105:Nat:=0
def PySem.W.Fast.tw11175287497917430941:Nat:=0
def PySem.W.Fast.tw17281640823714797539:Nat:=0
def PySem.W.Fast.tw13269836581203490624:Nat:=0
def PySem.W.Fast.tw9766812492760390306:Nat:=0
def PySem.W.Fast.tw7569383264985261139:Nat:=0
def PySem.W.Fast.tw5799359630309672686:Nat:=0
def PySem.W.Fast.tw18306510336309361144:Nat:=0
def PySem.W.Fast.tw11336056922605280931:Nat:=0
def PySem.W.Fast.tw4999255228172718794:Nat:=0
def PySem.W.Fast.tw1759491635719488479:Nat:=0
def PySem.W.Fast.tw13222658328268497221:Nat:=0
def PySem.W.Fast.tw1218624857920494109:Nat:=0
def PySem.W.Fast.tw4715961800683337956:Nat:=0
def PySem.W.Fast.tw5980003811333779612:Nat:=0
def PySem.W.Fast.tw1012915826025627062:Nat:=0
def PySem.W.Fast.tw37058844211228678:Nat:=0
def PySem.W.Fast.tw3385553823667198138:Nat:=0
def PySem.W.Fast.tw4482069604590646249:Nat:=0
def PySem.W.Fast.tw18127563640946744480:Nat:=0
def PySem.W.Fast.tw5977203744505292181:Nat:=0
def PySem.W.Fast.tw11726273878660027271:Nat:=0
open PySem PySem.W PyProof.Rows
set_option maxRecDepth 100000 in
set_option maxHeartbeats 0 in
theorem PySem.Challenge.cw_shrinkhouse_k10_what_holds_holds : PySem.Challenge.rw_shrinkhouse_k10_what_holds.Holds := by
  w_on; o_law; k_head; (case hw=>w_witness2)
  k_fill
  refine K10.walk (l:=PySem.Challenge.rw_shrinkhouse_k10_what_holds) rfl rfl (fun w h Y=>PySem.W.kIn_of Y) ?F
  case F =>
    intro w mg fa h KX G hmg
    refine' K10.all_mk KX G hmg ?a_Fault ?a_Has ?a_Many ?a_Pair ?a_Before ?a_Under ?a_Beside ?a_Joint ?a_All ?a_Any ?a_Not ?a_ShrinkError ?a_NoThing ?a_Thing ?a_Row ?a_Forest ?a_Table ?l_Has_init ?c_Has_init ?k_Has_init ?n_Has_init ?i_Has_holds ?l_Has_holds ?c_Has_holds ?k_Has_holds ?n_Has_holds ?l_Many_init ?c_Many_init ?k_Many_init ?n_Many_init ?i_Many_holds ?l_Many_holds ?c_Many_holds ?k_Many_holds ?n_Many_holds ?l_Pair_init ?c_Pair_init ?k_Pair_init ?n_Pair_init ?i_Before_holds ?l_Before_holds ?c_Before_holds ?k_Before_holds ?n_Before_holds ?i_Under_holds ?l_Under_holds ?c_Under_holds ?k_Under_holds ?n_Under_holds ?i_Beside_holds ?l_Beside_holds ?c_Beside_holds ?k_Beside_holds ?n_Beside_holds ?l_Joint_init ?c_Joint_init ?k_Joint_init ?n_Joint_init ?i_All_holds ?l_All_holds ?c_All_holds ?k_All_holds ?n_All_holds ?i_Any_holds ?l_Any_holds ?c_Any_holds ?k_Any_holds ?n_Any_holds ?l_Not_init ?c_Not_init ?k_Not_init ?n_Not_init ?i_Not_holds ?l_Not_holds ?c_Not_holds ?k_Not_holds ?n_Not_holds ?a_is_whole ?l_is_whole ?c_is_whole ?k_is_whole ?a_is_mark ?l_is_mark ?c_is_mark ?k_is_mark ?a_check_list ?l_check_list ?c_check_list ?k_check_list ?a_check_marks ?l_check_marks ?c_check_marks ?k_check_marks ?a_check_node ?l_check_node ?c_check_node ?k_check_node ?a_check_nodes ?l_check_nodes ?c_check_nodes ?k_check_nodes ?a_check_lines ?l_check_lines ?c_check_lines ?k_check_lines ?a_marks_at ?l_marks_at ?c_marks_at ?k_marks_at ?a_places_of ?l_places_of ?c_places_of ?k_places_of ?a_stands_ahead ?l_stands_ahead ?c_stands_ahead ?k_stands_ahead ?a_stands_right_ahead ?l_stands_right_ahead ?c_stands_right_ahead ?k_stands_right_ahead ?a_Thing_init ?l_Thing_init ?c_Thing_init ?k_Thing_init ?n_Thing_init ?i_Row_many_of ?i_Forest_many_of ?i_Table_many_of ?l_Thing_many_of ?c_Thing_many_of ?k_Thing_many_of ?n_Thing_many_of ?i_Row_is_before ?i_Forest_is_before ?i_Table_is_before ?l_Thing_is_before ?c_Thing_is_before ?k_Thing_is_before ?n_Thing_is_before ?l_Row_init ?c_Row_init ?k_Row_init ?n_Row_init ?i_Row_is_under ?l_Row_is_under ?c_Row_is_under ?k_Row_is_under ?n_Row_is_under ?i_Row_is_beside ?l_Row_is_beside ?c_Row_is_beside ?k_Row_is_beside ?n_Row_is_beside ?l_Forest_init ?c_Forest_init ?k_Forest_init ?n_Forest_init ?i_Forest_many ?l_Forest_many ?c_Forest_many ?k_Forest_many ?n_Forest_many ?i_Forest_standing ?l_Forest_standing ?c_Forest_standing ?k_Forest_standing ?n_Forest_standing ?i_Forest_is_under ?l_Forest_is_under ?c_Forest_is_under ?k_Forest_is_under ?n_Forest_is_under ?i_Forest_is_beside ?l_Forest_is_beside ?c_Forest_is_beside ?k_Forest_is_beside ?n_Forest_is_beside ?i_Forest_hanging ?l_Forest_hanging ?c_Forest_hanging ?k_Forest_hanging ?n_Forest_hanging ?l_Table_init ?c_Table_init ?k_Table_init ?n_Table_init ?i_Table_is_under ?l_Table_is_under ?c_Table_is_under ?k_Table_is_under ?n_Table_is_under ?i_Table_is_beside ?l_Table_is_beside ?c_Table_is_beside ?k_Table_is_beside ?n_Table_is_beside ?a__law_cell_at ?l__law_cell_at ?c__law_cell_at ?k__law_cell_at ?a__law_names ?l__law_names ?c__law_names ?k__law_names ?a__law_data ?l__law_data ?c__law_data ?k__law_data ?a__law_thing ?l__law_thing ?c__law_thing ?k__law_thing ?a__law_spots ?l__law_spots ?c__law_spots ?k__law_spots ?a__law_next_deep ?l__law_next_deep ?c__law_next_deep ?k__law_next_deep ?a__law_pairs ?l__law_pairs ?c__law_pairs ?k__law_pairs ?a__law_holds ?l__law_holds ?c__law_holds ?k__law_holds ?a__law_leaf ?l__law_leaf ?c__law_leaf ?k__law_leaf ?a__law_term ?l__law_term ?c__law_term ?k__law_term ?a__law_fault ?l__law_fault ?c__law_fault ?k__law_fault ?a__law_whole_term ?l__law_whole_term ?c__law_whole_term ?k__law_whole_term ?a_law ?l_law ?c_law ?k_law ?z_all ?z_any ?z_bool ?z_enumerate ?z_int ?z_isinstance ?z_len ?z_list ?z_min ?z_range ?z_str ?z_tuple ?z_zip ?g_LETTERS ?g_LONGEST_MARK ?g_MOST_IN_ROW ?g_MOST_NODES ?g_DEEPEST ?g_MOST_LINES ?g_MOST_COLUMNS ?x1_NoThing ?x2_NoThing ?x3_NoThing ?x4_NoThing ?x5_NoThing ?x6_NoThing ?x7_NoThing ?r1_All ?r2_All ?r3_All ?r4_All ?n_All_parts ?r6_All ?r9_All ?r1_Any ?r2_Any ?r3_Any ?r4_Any ?n_Any_parts ?r6_Any ?r9_Any ?r1_Before ?r2_Before ?r3_Before ?r4_Before ?n_Before_one ?n_Before_other ?r6_Before ?r9_Before ?r1_Beside ?r2_Beside ?r3_Beside ?r4_Beside ?n_Beside_one ?n_Beside_other ?r6_Beside ?r9_Beside ?r1_Forest ?r2_Forest ?r3_Forest ?r4_Forest ?n_Forest_nodes ?n_Forest_spot_marks ?r6_Forest ?r9_Forest ?r1_Has ?r2_Has ?r3_Has ?r4_Has ?n_Has_mark ?r6_Has ?r9_Has ?r1_Many ?r2_Many ?r3_Many ?r4_Many ?n_Many_mark ?n_Many_number ?r6_Many ?r9_Many ?r1_Not ?r2_Not ?r3_Not ?r4_Not ?n_Not_part ?r6_Not ?r9_Not ?r1_Row ?r2_Row ?r3_Row ?r4_Row ?n_Row_spot_marks ?r6_Row ?r9_Row ?r1_Table ?r2_Table ?r3_Table ?r4_Table ?n_Table_columns ?n_Table_lines ?n_Table_spot_marks ?r6_Table ?r9_Table ?r1_Under ?r2_Under ?r3_Under ?r4_Under ?n_Under_one ?n_Under_other ?r6_Under ?r9_Under ?r7 ?r8 ?mi_All ?m1_All ?m2_All ?mi_Any ?m1_Any ?m2_Any ?mi_Before ?m1_Before ?m2_Before ?mi_Beside ?m1_Beside ?m2_Beside ?mi_Forest ?m1_Forest ?m2_Forest ?mi_Has ?m1_Has ?m2_Has ?mi_Many ?m1_Many ?m2_Many ?mi_Not ?m1_Not ?m2_Not ?mi_Row ?m1_Row ?m2_Row ?mi_Table ?m1_Table ?m2_Table ?mi_Under ?m1_Under ?m2_Under ?th1_Thing ?th2_Thing
    (case a_Fault=>k_is)
    (case a_Has=>k_is)
    (case a_Many=>k_is)
    (case a_Pair=>k_is)
    (case a_Before=>k_is)
    (case a_Under=>k_is)
    (case a_Beside=>k_is)
    (case a_Joint=>k_is)
    (case a_All=>k_is)
    (case a_Any=>k_is)
    (case a_Not=>k_is)
    (case a_ShrinkError=>k_is)
    (case a_NoThing=>k_is)
    (case a_Thing=>k_is)
    (case a_Row=>k_is)
    (case a_Forest=>k_is)
    (case a_Table=>k_is)
    (case a_is_whole=>k_is)
    (case a_is_mark=>k_is)
    (case a_check_list=>k_is)
    (case a_check_marks=>k_is)
    (case a_check_node=>k_is)
    (case a_check_nodes=>k_is)
    (case a_check_lines=>k_is)
    (case a_marks_at=>k_is)
    (case a_places_of=>k_is)
    (case a_stands_ahead=>k_is)
    (case a_stands_right_ahead=>k_is)
    (case a_Thing_init=>k_is)
    (case a__law_cell_at=>k_is)
    (case a__law_names=>k_is)
    (case a__law_data=>k_is)
    (case a__law_thing=>k_is)
    (case a__law_spots=>k_is)
    (case a__law_next_deep=>k_is)
    (case a__law_pairs=>k_is)
    (case a__law_holds=>k_is)
    (case a__law_leaf=>k_is)
    (case a__law_term=>k_is)
    (case a__law_fault=>k_is)
    (case a__law_whole_term=>k_is)
    (case a_law=>k_is)
    (case mi_All=>k_is)
    (case mi_Any=>k_is)
    (case mi_Before=>k_is)
    (case mi_Beside=>k_is)
    (case mi_Forest=>k_is)
    (case mi_Has=>k_is)
    (case mi_Many=>k_is)
    (case mi_Not=>k_is)
    (case mi_Row=>k_is)
    (case mi_Table=>k_is)
    (case mi_Under=>k_is)
    (case l_Has_init=>k_is)
    (case c_Has_init=>k_is)
    (case k_Has_init=>k_is)
    (case n_Has_init=>k_is)
    (case i_Has_holds=>k_is)
    (case l_Has_holds=>k_is)
    (case c_Has_holds=>k_is)
    (case k_Has_holds=>k_is)
    (case n_Has_holds=>k_is)
    (case l_Many_init=>k_is)
    (case c_Many_init=>k_is)
    (case k_Many_init=>k_is)
    (case n_Many_init=>k_is)
    (case i_Many_holds=>k_is)
    (case l_Many_holds=>k_is)
    (case c_Many_holds=>k_is)
    (case k_Many_holds=>k_is)
    (case n_Many_holds=>k_is)
    (case l_Pair_init=>k_is)
    (case c_Pair_init=>k_is)
    (case k_Pair_init=>k_is)
    (case n_Pair_init=>k_is)
    (case i_Before_holds=>k_is)
    (case l_Before_holds=>k_is)
    (case c_Before_holds=>k_is)
    (case k_Before_holds=>k_is)
    (case n_Before_holds=>k_is)
    (case i_Under_holds=>k_is)
    (case l_Under_holds=>k_is)
    (case c_Under_holds=>k_is)
    (case k_Under_holds=>k_is)
    (case n_Under_holds=>k_is)
    (case i_Beside_holds=>k_is)
    (case l_Beside_holds=>k_is)
    (case c_Beside_holds=>k_is)
    (case k_Beside_holds=>k_is)
    (case n_Beside_holds=>k_is)
    (case l_Joint_init=>k_is)
    (case c_Joint_init=>k_is)
    (case k_Joint_init=>k_is)
    (case n_Joint_init=>k_is)
    (case i_All_holds=>k_is)
    (case l_All_holds=>k_is)
    (case c_All_holds=>k_is)
    (case k_All_holds=>k_is)
    (case n_All_holds=>k_is)
    (case i_Any_holds=>k_is)
    (case l_Any_holds=>k_is)
    (case c_Any_holds=>k_is)
    (case k_Any_holds=>k_is)
    (case n_Any_holds=>k_is)
    (case l_Not_init=>k_is)
    (case c_Not_init=>k_is)
    (case k_Not_init=>k_is)
    (case n_Not_init=>k_is)
    (case i_Not_holds=>k_is)
    (case l_Not_holds=>k_is)
    (case c_Not_holds=>k_is)
    (case k_Not_holds=>k_is)
    (case n_Not_holds=>k_is)
    (case l_is_whole=>k_is)
    (case c_is_whole=>k_is)
    (case k_is_whole=>k_is)
    (case l_is_mark=>k_is)
    (case c_is_mark=>k_is)
    (case k_is_mark=>k_is)
    (case l_check_list=>k_is)
    (case c_check_list=>k_is)
    (case k_check_list=>k_is)
    (case l_check_marks=>k_is)
    (case c_check_marks=>k_is)
    (case k_check_marks=>k_is)
    (case l_check_node=>k_is)
    (case c_check_node=>k_is)
    (case k_check_node=>k_is)
    (case l_check_nodes=>k_is)
    (case c_check_nodes=>k_is)
    (case k_check_nodes=>k_is)
    (case l_check_lines=>k_is)
    (case c_check_lines=>k_is)
    (case k_check_lines=>k_is)
    (case l_marks_at=>k_is)
    (case c_marks_at=>k_is)
    (case k_marks_at=>k_is)
    (case l_places_of=>k_is)
    (case c_places_of=>k_is)
    (case k_places_of=>k_is)
    (case l_stands_ahead=>k_is)
    (case c_stands_ahead=>k_is)
    (case k_stands_ahead=>k_is)
    (case l_stands_right_ahead=>k_is)
    (case c_stands_right_ahead=>k_is)
    (case k_stands_right_ahead=>k_is)
    (case l_Thing_init=>k_is)
    (case c_Thing_init=>k_is)
    (case k_Thing_init=>k_is)
    (case n_Thing_init=>k_is)
    (case i_Row_many_of=>k_is)
    (case i_Forest_many_of=>k_is)
    (case i_Table_many_of=>k_is)
    (case l_Thing_many_of=>k_is)
    (case c_Thing_many_of=>k_is)
    (case k_Thing_many_of=>k_is)
    (case n_Thing_many_of=>k_is)
    (case i_Row_is_before=>k_is)
    (case i_Forest_is_before=>k_is)
    (case i_Table_is_before=>k_is)
    (case l_Thing_is_before=>k_is)
    (case c_Thing_is_before=>k_is)
    (case k_Thing_is_before=>k_is)
    (case n_Thing_is_before=>k_is)
    (case l_Row_init=>k_is)
    (case c_Row_init=>k_is)
    (case k_Row_init=>k_is)
    (case n_Row_init=>k_is)
    (case i_Row_is_under=>k_is)
    (case l_Row_is_under=>k_is)
    (case c_Row_is_under=>k_is)
    (case k_Row_is_under=>k_is)
    (case n_Row_is_under=>k_is)
    (case i_Row_is_beside=>k_is)
    (case l_Row_is_beside=>k_is)
    (case c_Row_is_beside=>k_is)
    (case k_Row_is_beside=>k_is)
    (case n_Row_is_beside=>k_is)
    (case l_Forest_init=>k_is)
    (case c_Forest_init=>k_is)
    (case k_Forest_init=>k_is)
    (case n_Forest_init=>k_is)
    (case i_Forest_many=>k_is)
    (case l_Forest_many=>k_is)
    (case c_Forest_many=>k_is)
    (case k_Forest_many=>k_is)
    (case n_Forest_many=>k_is)
    (case i_Forest_standing=>k_is)
    (case l_Forest_standing=>k_is)
    (case c_Forest_standing=>k_is)
    (case k_Forest_standing=>k_is)
    (case n_Forest_standing=>k_is)
    (case i_Forest_is_under=>k_is)
    (case l_Forest_is_under=>k_is)
    (case c_Forest_is_under=>k_is)
    (case k_Forest_is_under=>k_is)
    (case n_Forest_is_under=>k_is)
    (case i_Forest_is_beside=>k_is)
    (case l_Forest_is_beside=>k_is)
    (case c_Forest_is_beside=>k_is)
    (case k_Forest_is_beside=>k_is)
    (case n_Forest_is_beside=>k_is)
    (case i_Forest_hanging=>k_is)
    (case l_Forest_hanging=>k_is)
    (case c_Forest_hanging=>k_is)
    (case k_Forest_hanging=>k_is)
    (case n_Forest_hanging=>k_is)
    (case l_Table_init=>k_is)
    (case c_Table_init=>k_is)
    (case k_Table_init=>k_is)
    (case n_Table_init=>k_is)
    (case i_Table_is_under=>k_is)
    (case l_Table_is_under=>k_is)
    (case c_Table_is_under=>k_is)
    (case k_Table_is_under=>k_is)
    (case n_Table_is_under=>k_is)
    (case i_Table_is_beside=>k_is)
    (case l_Table_is_beside=>k_is)
    (case c_Table_is_beside=>k_is)
    (case k_Table_is_beside=>k_is)
    (case n_Table_is_beside=>k_is)
    (case l__law_cell_at=>k_is)
    (case c__law_cell_at=>k_is)
    (case k__law_cell_at=>k_is)
    (case l__law_names=>k_is)
    (case c__law_names=>k_is)
    (case k__law_names=>k_is)
    (case l__law_data=>k_is)
    (case c__law_data=>k_is)
    (case k__law_data=>k_is)
    (case l__law_thing=>k_is)
    (case c__law_thing=>k_is)
    (case k__law_thing=>k_is)
    (case l__law_spots=>k_is)
    (case c__law_spots=>k_is)
    (case k__law_spots=>k_is)
    (case l__law_next_deep=>k_is)
    (case c__law_next_deep=>k_is)
    (case k__law_next_deep=>k_is)
    (case l__law_pairs=>k_is)
    (case c__law_pairs=>k_is)
    (case k__law_pairs=>k_is)
    (case l__law_holds=>k_is)
    (case c__law_holds=>k_is)
    (case k__law_holds=>k_is)
    (case l__law_leaf=>k_is)
    (case c__law_leaf=>k_is)
    (case k__law_leaf=>k_is)
    (case l__law_term=>k_is)
    (case c__law_term=>k_is)
    (case k__law_term=>k_is)
    (case l__law_fault=>k_is)
    (case c__law_fault=>k_is)
    (case k__law_fault=>k_is)
    (case l__law_whole_term=>k_is)
    (case c__law_whole_term=>k_is)
    (case k__law_whole_term=>k_is)
    (case l_law=>k_is)
    (case c_law=>k_is)
    (case k_law=>k_is)
    (case z_all=>k_is)
    (case z_any=>k_is)
    (case z_bool=>k_is)
    (case z_enumerate=>k_is)
    (case z_int=>k_is)
    (case z_isinstance=>k_is)
    (case z_len=>k_is)
    (case z_list=>k_is)
    (case z_min=>k_is)
    (case z_range=>k_is)
    (case z_str=>k_is)
    (case z_tuple=>k_is)
    (case z_zip=>k_is)
    (case g_LETTERS=>k_is)
    (case g_LONGEST_MARK=>k_is)
    (case g_MOST_IN_ROW=>k_is)
    (case g_MOST_NODES=>k_is)
    (case g_DEEPEST=>k_is)
    (case g_MOST_LINES=>k_is)
    (case g_MOST_COLUMNS=>k_is)
    (case x1_NoThing=>k_exc)
    (case x2_NoThing=>k_is)
    (case x3_NoThing=>k_is)
    (case x4_NoThing=>k_is)
    (case x5_NoThing=>k_is)
    (case x6_NoThing=>k_is)
    (case x7_NoThing=>k_is)
    (case r1_All=>k_is)
    (case r2_All=>k_is)
    (case r3_All=>k_is)
    (case r4_All=>k_is)
    (case n_All_parts=>k_is)
    (case r6_All=>k_is)
    (case r9_All=>k_is)
    (case r1_Any=>k_is)
    (case r2_Any=>k_is)
    (case r3_Any=>k_is)
    (case r4_Any=>k_is)
    (case n_Any_parts=>k_is)
    (case r6_Any=>k_is)
    (case r9_Any=>k_is)
    (case r1_Before=>k_is)
    (case r2_Before=>k_is)
    (case r3_Before=>k_is)
    (case r4_Before=>k_is)
    (case n_Before_one=>k_is)
    (case n_Before_other=>k_is)
    (case r6_Before=>k_is)
    (case r9_Before=>k_is)
    (case r1_Beside=>k_is)
    (case r2_Beside=>k_is)
    (case r3_Beside=>k_is)
    (case r4_Beside=>k_is)
    (case n_Beside_one=>k_is)
    (case n_Beside_other=>k_is)
    (case r6_Beside=>k_is)
    (case r9_Beside=>k_is)
    (case r1_Forest=>k_is)
    (case r2_Forest=>k_is)
    (case r3_Forest=>k_is)
    (case r4_Forest=>k_is)
    (case n_Forest_nodes=>k_is)
    (case n_Forest_spot_marks=>k_is)
    (case r6_Forest=>k_is)
    (case r9_Forest=>k_is)
    (case r1_Has=>k_is)
    (case r2_Has=>k_is)
    (case r3_Has=>k_is)
    (case r4_Has=>k_is)
    (case n_Has_mark=>k_is)
    (case r6_Has=>k_is)
    (case r9_Has=>k_is)
    (case r1_Many=>k_is)
    (case r2_Many=>k_is)
    (case r3_Many=>k_is)
    (case r4_Many=>k_is)
    (case n_Many_mark=>k_is)
    (case n_Many_number=>k_is)
    (case r6_Many=>k_is)
    (case r9_Many=>k_is)
    (case r1_Not=>k_is)
    (case r2_Not=>k_is)
    (case r3_Not=>k_is)
    (case r4_Not=>k_is)
    (case n_Not_part=>k_is)
    (case r6_Not=>k_is)
    (case r9_Not=>k_is)
    (case r1_Row=>k_is)
    (case r2_Row=>k_is)
    (case r3_Row=>k_is)
    (case r4_Row=>k_is)
    (case n_Row_spot_marks=>k_is)
    (case r6_Row=>k_is)
    (case r9_Row=>k_is)
    (case r1_Table=>k_is)
    (case r2_Table=>k_is)
    (case r3_Table=>k_is)
    (case r4_Table=>k_is)
    (case n_Table_columns=>k_is)
    (case n_Table_lines=>k_is)
    (case n_Table_spot_marks=>k_is)
    (case r6_Table=>k_is)
    (case r9_Table=>k_is)
    (case r1_Under=>k_is)
    (case r2_Under=>k_is)
    (case r3_Under=>k_is)
    (case r4_Under=>k_is)
    (case n_Under_one=>k_is)
    (case n_Under_other=>k_is)
    (case r6_Under=>k_is)
    (case r9_Under=>k_is)
    (case r7=>k_is)
    (case r8=>k_is)
    (case m1_All=>k_is)
    (case m2_All=>k_is)
    (case m1_Any=>k_is)
    (case m2_Any=>k_is)
    (case m1_Before=>k_is)
    (case m2_Before=>k_is)
    (case m1_Beside=>k_is)
    (case m2_Beside=>k_is)
    (case m1_Forest=>k_is)
    (case m2_Forest=>k_is)
    (case m1_Has=>k_is)
    (case m2_Has=>k_is)
    (case m1_Many=>k_is)
    (case m2_Many=>k_is)
    (case m1_Not=>k_is)
    (case m2_Not=>k_is)
    (case m1_Row=>k_is)
    (case m2_Row=>k_is)
    (case m1_Table=>k_is)
    (case m2_Table=>k_is)
    (case m1_Under=>k_is)
    (case m2_Under=>k_is)
    (case th1_Thing=>k_is)
    (case th2_Thing=>k_is)
#print axioms PySem.Challenge.cw_shrinkhouse_k10_what_holds_holds
