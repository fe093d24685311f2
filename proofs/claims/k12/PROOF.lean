import PyProof.Rows.All
import Wide.All
import OpenK.AllK
import Wide.FinOn
import Lean
import PyProof.EqAt
import PyProof.EqKinds
import PyProof.TupleCall
import PyProof.StrLawsIn
import KE.KTryMore
import PyProof.ListRange
import PyProof.ZipIter
import KE.KDictOf
import PyProof.Draws
import PyProof.EnumMake
import PyProof.Rows.EnumRows
import PySem.Challenge.RW_shrinkhouse_k12_whole_more_never_heals
set_option autoImplicit false
set_option Elab.async false
set_option linter.all false
set_option maxRecDepth 100000
set_option maxHeartbeats 4000000
namespace L2
open PySem PySem.Spec PyProof.Rows
abbrev Key:=Sum Int Str
def E2:Key→Value→Bool
 | .inl k,v=>Value.isInt k v
 | .inr x,v=>Value.isStrOf x v
def Vb (w:World):Key→Int
 | .inl k=>hashInt k
 | .inr x=>hashStr w x
theorem iy:∀ {k:Key}{v:Value},E2 k v=true→(∃ i t,k=Sum.inl i∧v=Value.int i t)∨(∃ x t,k=Sum.inr x∧v=Value.str x t)
 | .inl i,v,h=>by
  obtain⟨t,e⟩:=Value.isInt_shape (k:=i) (v:=v) h
  exact .inl ⟨i,t,rfl,e⟩
 | .inr x,v,h=>by
  obtain⟨t,e⟩:=Value.isStrOf_shape (x:=x) (v:=v) h
  exact .inr ⟨x,t,rfl,e⟩
theorem LF (i:Int) (t:Tok):E2 (.inl i) (.int i t)=true:=by simp [E2,Value.isInt]
theorem LG (x:Str) (t:Tok):E2 (.inr x) (.str x t)=true:=by simp [E2,Value.isStrOf]
theorem Qa (a b:Int):decide ((Sum.inl a:Key)=Sum.inl b)=(a==b):=by
 by_cases e:a=b
 ·subst e;simp
 ·have h:¬ (Sum.inl a:Key)=Sum.inl b:=fun q=>e (Sum.inl.inj q)
  rw[decide_eq_false h]
  exact (beq_eq_false_iff_ne.mpr e).symm
theorem Qb (a b:Str):decide ((Sum.inr a:Key)=Sum.inr b)=decide (a=b):=by
 by_cases e:a=b
 ·subst e;simp
 ·have h:¬ (Sum.inr a:Key)=Sum.inr b:=fun q=>e (Sum.inr.inj q)
  rw[decide_eq_false h,decide_eq_false e]
theorem Qc (a:Int) (b:Str):decide ((Sum.inl a:Key)=Sum.inr b)=false:=decide_eq_false (fun q=>nomatch q)
theorem Qd (a:Str) (b:Int):decide ((Sum.inr a:Key)=Sum.inl b)=false:=decide_eq_false (fun q=>nomatch q)
def gi (prog:Program) (w:World):PySem.KeyKind prog w Key where
 is:=E2
 hash:=Vb w
 inj:=fun v a b ha hb=>by
  rcases iy ha with ⟨i,t,rfl,rfl⟩ | ⟨x,t,rfl,rfl⟩
  ·rcases iy hb with ⟨j,u,rfl,e⟩ | ⟨y,u,rfl,e⟩
   ·injection e with e1 _;rw[e1]
   ·exact nomatch e
  ·rcases iy hb with ⟨j,u,rfl,e⟩ | ⟨y,u,rfl,e⟩
   ·exact nomatch e
   ·injection e with e1 _;rw[e1]
 byValue:=fun k v h=>by
  rcases iy h with ⟨i,t,rfl,rfl⟩ | ⟨x,t,rfl,rfl⟩<;>rfl
 pyHash:=fun hv h=>by
  rcases iy hv with ⟨i,t,rfl,rfl⟩ | ⟨x,t,rfl,rfl⟩
  ·exact wpAny_pyHash_int h
  ·exact wpAny_pyHash_str h
 eqBool:=fun hu hv h=>by
  rcases iy hu with ⟨i,t,rfl,rfl⟩ | ⟨x,t,rfl,rfl⟩
  ·rcases iy hv with ⟨j,u,rfl,rfl⟩ | ⟨y,u,rfl,rfl⟩
   ·rw[Qa] at h;exact wpAny_eqBool_int h
   ·rw[Qc] at h;exact SeqAt.EqAt.int_str i t y u _ _ _ _ h
  ·rcases iy hv with ⟨j,u,rfl,rfl⟩ | ⟨y,u,rfl,rfl⟩
   ·rw[Qd] at h;exact SeqAt.EqAt.str_int x t j u _ _ _ _ h
   ·rw[Qb] at h;exact wpAny_eqBool_str h
 «strs»:=fun k x t v h=>by
  rcases iy h with ⟨i,u,rfl,e⟩ | ⟨y,u,rfl,e⟩
  ·exact nomatch e
  ·injection e with e1 _
   subst e1
   cases v<;>rfl
theorem G4 (prog:Program) (w:World) (i:Int) (t:Tok):(gi prog w).is (.inl i) (.int i t)=true:=LF i t
theorem G5 (prog:Program) (w:World) (x:Str) (t:Tok):(gi prog w).is (.inr x) (.str x t)=true:=LG x t
end L2
namespace L2
open PySem PySem.Spec PyProof.Rows
inductive V where
 | cU | bl (b:Bool) | int (i:Int) | str (x:Str) | KY (b:Array UInt8) | Qe (b:UInt64) | ref (a:Addr) | ty (n:String)
 deriving DecidableEq
def RelV:V→Value→Prop
 | .cU,u=>u=Value.none
 | .bl b,u=>u=Value.bool b
 | .int i,u=>∃ t,u=Value.int i t
 | .str x,u=>∃ t,u=Value.str x t
 | .KY b,u=>∃ t,u=Value.bytes b t
 | .Qe b,u=>∃ t,u=Value.float b t
 | .ref a,u=>u=Value.ref a
 | .ty n,u=>u=Value.type n
abbrev Vals:List V→List Value→Prop:=Paired RelV
theorem Vals.length {xs:List V}{us:List Value} (r:Vals xs us):xs.length=us.length:=Paired.length r
theorem Vals.get:∀ {xs:List V}{us:List Value}{i:Nat}{x:V},Vals xs us→xs[i]? = some x→∃ u,us[i]? = some u∧RelV x u
 | _,_,_,_,.nil,e=>by simp at e
 | _,_,0,_,.cons r _,e=>by simp at e;subst e;exact⟨_,rfl,r⟩
 | _,_,i+1,x,.cons _ t,e=>by
  obtain⟨u,h1,h2⟩:=Vals.get (i:=i) (x:=x) t (by simpa using e)
  exact⟨u,by simpa using h1,h2⟩
theorem Vals.set {x:V}{u:Value} (r:RelV x u):∀ {xs:List V}{us:List Value} (i:Nat),Vals xs us→Vals (xs.set i x) (us.set i u)
 | _,_,_,.nil=>.nil
 | _,_,0,.cons _ t=>.cons r t
 | _,_,i+1,.cons q t=>.cons q (Vals.set r i t)
theorem Vals.append:∀ {xs ys:List V}{us ws:List Value},Vals xs us→Vals ys ws→Vals (xs++ys) (us++ws)
 | _,_,_,_,.nil,s=>s
 | _,_,_,_,.cons r t,s=>.cons r (Vals.append t s)
theorem Vals.take:∀ {xs:List V}{us:List Value} (n:Nat),Vals xs us→Vals (xs.take n) (us.take n)
 | _,_,0,_=>.nil
 | _,_,_+1,.nil=>.nil
 | _,_,n+1,.cons r t=>.cons r (Vals.take n t)
theorem Vals.drop:∀ {xs:List V}{us:List Value} (n:Nat),Vals xs us→Vals (xs.drop n) (us.drop n)
 | _,_,0,r=>r
 | _,_,_+1,.nil=>.nil
 | _,_,n+1,.cons _ t=>Vals.drop n t
theorem Vals.none_of:∀ {xs:List V}{us:List Value}{i:Nat},Vals xs us→xs[i]? = none→us[i]? = none:=fun {xs us i} r e=>by
 have h1:=r.length
 have h2:xs.length≤i:=List.getElem?_eq_none_iff.mp e
 exact List.getElem?_eq_none_iff.mpr (by omega)
def yD:Option V→Option Value→Prop
 | some v,some u=>RelV v u
 | none,none=>True
 | _,_=>False
def KV {κ:Type}:List (κ×V)→List (κ×Value)→Prop:=Paired fun (p:κ×V) (q:κ×Value)=>p.1=q.1∧RelV p.2 q.2
def kV:Key→V
 | .inl i=>.int i
 | .inr x=>.str x
inductive HO where
 
 | lst (xs:List V)
 
 | tup (xs:List V)
 
 | dK (cR:List (Key×V)) | dT (cR:List (List Key×V))
 
 | set (S:Int→Bool) (n:Nat)
 
 | ins (C dx:Addr) (fs:List (Str×V))
 
 | own (x:Addr)
 
 | xd (fs:List (Str×V))
 
 | met (f x:Addr)
 
 | OF (lo hi:Int)
 
 | yE (o:Obj) (u:HO)
 
 | Pj (ps:Array Value)
 
 | ext (φ:Heap→Prop)
abbrev Hp:=Addr→Option HO
def upd (H:Hp) (a:Addr) (o:HO):Hp:=fun b=>if b=a then some o else H b
theorem ag {H:Hp}{a:Addr}{o:HO}:upd H a o a=some o:=by unfold upd;rw[if_pos rfl]
theorem aF {H:Hp}{a b:Addr}{o:HO} (h:b≠a):upd H a o b=H b:=by unfold upd;rw[if_neg h]
theorem qJ {H:Hp}{a:Addr}{o u:HO}:upd (upd H a o) a u=upd H a u:=by
 funext b;unfold upd;split<;>rfl
theorem uE {H:Hp}{a b:Addr}{o u:HO} (h:H a=some o) (h':H b=some u) (d:o≠u):a≠b:=by
 intro e;subst e;rw[h] at h';exact d (Option.some.inj h')
theorem aG {H:Hp}{a b:Addr}{o:HO} (h:H a=some o) (h':H b=none):a≠b:=by
 intro e;subst e;rw[h] at h';cases h'
section
variable (P:Program) (w:World)
def gj (H:Hp) (h:Heap) (a:Addr):HO→Prop
 | .lst xs=>xs.length≤sizeLine∧∃ (bF:List Value) (n:Nat),Vals xs bF∧h.get? a=some { cls:=.type "list",data:=.seq bF.toArray n }
 | .tup xs=>xs.length≤sizeLine∧∃ bF:List Value,Vals xs bF∧IsTup h a bF.toArray
 | .dK cR=>cR.length≤sizeLine∧(a==sysModules)=false∧∃ vs,KV cR vs∧h.DictOf (gi P w) a vs
 | .dT cR=>cR.length≤sizeLine∧(a==sysModules)=false∧∃ xs:List (List Key×Addr×Value),
   Paired (fun (p:List Key×V) (q:List Key×Addr×Value)=>p.1=q.1∧H q.2.1=some (.tup (p.1.map kV))∧RelV p.2 q.2.2) cR xs ∧
   ∃ o es ep,h.get? a=some o∧o.ExactDict∧o.data=.dict es ep∧es.toList=xs.map (entryOfKey (tupleKind (gi P w)))∧(xs.map (·.1)).Nodup
 | .set S n=>h.SetOf (intKind P w) a S n
 | .ins C dx fs=>H dx=some (.own a)∧fs.length≤1000∧dx≠a∧h.get? a=some (PySem.W.instObj C dx) ∧
   ∃ mA,h.Ns1 dx mA∧(∀ f,yD (fs.lookup f) (mA f))∧PySem.Within mA (fs.map (·.1))
 | .own _=>∃ o,h.get? a=some o
 | .xd fs=>∃ mA,h.Ns1 a mA∧∀ f,yD (fs.lookup f) (mA f)
 | .OF lo hi=>∃ t u v,h.get? a=some { cls:=.type "range",data:=.fields #[.int lo t,.int hi u,.int 1 v] }
 | .yE o u=>h.get? a=some o∧gj H h a u
 | .Pj ps=>h.get? a=some { cls:=.none,data:=.fields ps }
 | .met f x=>h.get? a=some (PySem.W.methodObj (.ref f) (.ref x))
 | .ext φ=>φ h∧(∃ o,h.get? a=some o)∧∀ h1 h2:Heap,φ h1→(∀ o,h1.get? a=some o→h2.get? a=some o)→φ h2
def wg (H:Hp) (h:Heap):Prop:=∀ a o,H a=some o→gj P w H h a o
end
section
variable {P:Program}{w:World}{H H':Hp}{h h':Heap}{a:Addr}{o:HO}
theorem gj.lt (x:gj P w H h a o):a<h.objs.size:=by
 cases o with
 | lst xs=>obtain⟨_,_,_,_,e⟩:=x;exact Heap.lt_size e
 | tup xs=>obtain⟨_,_,_,p⟩:=x;exact p.lt
 | dK cR=>obtain⟨_,_,_,_,o,_,_,e,_⟩:=x;exact Heap.lt_size e
 | dT cR=>obtain⟨_,_,_,_,o,_,_,e,_⟩:=x;exact Heap.lt_size e
 | set S n=>obtain⟨o,_,_,_,e,_⟩:=x;exact Heap.lt_size e
 | ins C dx fs=>obtain⟨_,_,_,e,_⟩:=x;exact Heap.lt_size e
 | own y=>obtain⟨_,e⟩:=x;exact Heap.lt_size e
 | xd fs=>obtain⟨_,⟨_,_,_,e,_⟩,_⟩:=x;exact Heap.lt_size e
 | OF lo hi=>obtain⟨_,_,_,e⟩:=x;exact Heap.lt_size e
 | yE ob u=>obtain⟨e,_⟩:=x;exact Heap.lt_size e
 | Pj ps=>exact Heap.lt_size (show h.get? a=some _ from x)
 | met f y=>exact Heap.lt_size (show h.get? a=some _ from x)
 | ext φ=>obtain⟨_,⟨_,e⟩,_⟩:=x;exact Heap.lt_size e
theorem Paired.Qf {α β:Type}{F G:α→β→Prop}:∀ {l₁:List α}{l₂:List β},Paired F l₁ l₂→(∀ a b,F a b→G a b)→Paired G l₁ l₂
 | _,_,.nil,_=>.nil
 | _,_,.cons r t,f=>.cons (f _ _ r) (Paired.Qf t f)
theorem gj.rj (x:gj P w H h a o) (k:∀ b u,(b=a∨H b=some (.own a))→h.get? b=some u→h'.get? b=some u)
  (ho:∀ b,H b=some (.own a)→H' b=some (.own a)) (ht:∀ b xs,H b=some (.tup xs)→H' b=some (.tup xs)):gj P w H' h' a o:=by
 induction o with
 | lst xs=>obtain⟨z,bF,n,r,e⟩:=x;exact⟨z,bF,n,r,k _ _ (.inl rfl) e⟩
 | tup xs=>obtain⟨z,bF,r,ob,e,c⟩:=x;exact⟨z,bF,r,ob,k _ _ (.inl rfl) e,c⟩
 | dK cR=>obtain⟨z,y,vs,r,ob,es,ep,e,c⟩:=x;exact⟨z,y,vs,r,ob,es,ep,k _ _ (.inl rfl) e,c⟩
 | dT cR =>
  obtain⟨z,y,xs,r,ob,es,ep,e,c⟩:=x
  exact⟨z,y,xs,Paired.Qf r fun p q z=>⟨z.1,ht _ _ z.2.1,z.2.2⟩,ob,es,ep,k _ _ (.inl rfl) e,c⟩
 | set S n=>obtain⟨ob,es,ep,t,e,c⟩:=x;exact⟨ob,es,ep,t,k _ _ (.inl rfl) e,c⟩
 | ins C dx fs =>
  obtain⟨d,z,ne,e,mA,⟨od,es,ep,e2,c⟩,r⟩:=x
  exact⟨ho _ d,z,ne,k _ _ (.inl rfl) e,mA,⟨od,es,ep,k _ _ (.inr d) e2,c⟩,r⟩
 | own y=>obtain⟨ob,e⟩:=x;exact⟨ob,k _ _ (.inl rfl) e⟩
 | xd fs=>obtain⟨mA,⟨od,es,ep,e,c⟩,r⟩:=x;exact⟨mA,⟨od,es,ep,k _ _ (.inl rfl) e,c⟩,r⟩
 | OF lo hi=>obtain⟨t,u,v,e⟩:=x;exact⟨t,u,v,k _ _ (.inl rfl) e⟩
 | yE ob u ih=>obtain⟨e,q⟩:=x;exact⟨k _ _ (.inl rfl) e,ih q⟩
 | Pj ps =>
  have e:h.get? a=some { cls:=.none,data:=.fields ps }:=x
  show h'.get? a=some { cls:=.none,data:=.fields ps }
  exact k a _ (.inl rfl) e
 | met f y =>
  have e:h.get? a=some (PySem.W.methodObj (.ref f) (.ref y)):=x
  show h'.get? a=some (PySem.W.methodObj (.ref f) (.ref y))
  exact k a _ (.inl rfl) e
 | ext φ=>obtain⟨p,⟨o,e⟩,st⟩:=x;exact⟨st _ _ p fun o q=>k _ _ (.inl rfl) q,⟨o,k _ _ (.inl rfl) e⟩,st⟩
theorem wg.lt (x:wg P w H h) (e:H a=some o):a<h.objs.size:=(x a o e).lt
theorem wg.fresh (x:wg P w H h) (e:h.objs.size≤a):H a=none:=by
 cases q:H a with
 | none=>rfl
 | some u=>exact absurd (Nat.lt_of_lt_of_le (x.lt q) e) (Nat.lt_irrefl _)
theorem wg.kept (x:wg P w H h) (k:∀ b u,h.get? b=some u→h'.get? b=some u):wg P w H h':=fun a o e =>
 (x a o e).rj (fun b u _ q=>k b u q) (fun _ q=>q) fun _ _ q=>q
theorem wg.laid (x:wg P w H h) (k:∀ b u,h.get? b=some u→h'.get? b=some u) (hp:h.objs.size≤a) (new:gj P w (upd H a o) h' a o):wg P w (upd H a o) h':=fun b u e=>by
 have hn:=x.fresh hp
 by_cases hb:b=a
 ·subst hb;rw[ag] at e;cases e;exact new
 ·rw[aF hb] at e
  exact (x b u e).rj (fun c v _ q=>k c v q) (fun c q=>by rw[aF (aG q hn)];exact q) fun c xs q=>by rw[aF (aG q hn)];exact q
end
def Rd (H:Hp) (a:Addr) (u:HO):Prop:=H a=some u∨∃ o,H a=some (.yE o u)
theorem Rd.of {H:Hp}{a:Addr}{u:HO} (h:H a=some u):Rd H a u:=.inl h
theorem Rd.ok {P:Program}{w:World}{H:Hp}{h:Heap}{a:Addr}{u:HO} (r:Rd H a u) (x:wg P w H h):gj P w H h a u:=by
 rcases r with r | ⟨o,r⟩
 ·exact x a u r
 ·obtain⟨_,q⟩:=x a _ r
  exact q
def Ut:Option HO→Prop
 | some (.lst _)=>True
 | some (.dK _)=>True
 | some (.dT _)=>True
 | some (.set _ _)=>True
 | some (.ins _ _ _)=>True
 | some (.ext _)=>True
 | _=>False
section
variable {P:Program}{w:World}{H:Hp}{h h':Heap}{x e:Addr}{o':HO}
theorem wg.write (ok:wg P w H h) (mu:Ut (H x)) (he:e=x∨H e=some (.own x)) (k:∀ b u,b≠e→h.get? b=some u→h'.get? b=some u) (RK:∃ u,h'.get? e=some u)
  (new:gj P w (upd H x o') h' x o'):wg P w (upd H x o') h':=fun b u q=>by
 have Sl:∀ c y,H c=some (.own y)→c≠x:=fun c y r z=>by subst z;rw[r] at mu;exact mu
 have Vc:∀ c xs,H c=some (.tup xs)→c≠x:=fun c xs r z=>by subst z;rw[r] at mu;exact mu
 by_cases hb:b=x
 ·subst hb;rw[ag] at q;cases q;exact new
 ·rw[aF hb] at q
  by_cases Qg:b=e
  ·have q':H b=some (.own x):=by
    rcases he with z | z
    ·exact absurd (Qg.trans z) hb
    ·rw[Qg];exact z
   rw[q] at q';cases q'
   obtain⟨v,hv⟩:=RK
   exact⟨v,by rw[Qg];exact hv⟩
  ·refine (ok b u q).rj (fun c v hc r=>k c v ?_ r) (fun c r=>by rw[aF (Sl c b r)];exact r) fun c xs r=>by rw[aF (Vc c xs r)];exact r
   rcases hc with rfl | hc
   ·exact Qg
   ·rintro rfl
    rcases he with z | z
    ·exact Sl c b hc z
    ·rw[hc] at z;cases z;exact hb rfl
end
structure Un (fs ex:List Addr) (H H':Hp) (h h':Heap):Prop where
 keep:∀ b o,h.get? b=some o→H b=none→b∉fs→b∉ex→h'.get? b=some o
 slot:∀ b o,h.get? b=some o→H b=none→b∈fs→b∉ex→∃ sl,h'.get? b=some { o with slots:=sl }
 free:∀ b o,h.get? b=some o→H b=none→b∉ex→H' b=none
 there:∀ b o,h.get? b=some o→b∉ex→∃ o',h'.get? b=some o'
 iz:∀ b xs,H b=some (.tup xs)→H' b=some (.tup xs)
 sO:∀ b o u,H b=some (.yE o u)→H' b=some (.yE o u)
 uU:∀ b ps,H b=some (.Pj ps)→∃ more,H' b=some (.Pj (ps++more))
section
variable {fs Vd ex Xe:List Addr}{H H1 H2:Hp}{h h1 h2 h':Heap}{a x e:Addr}{o:HO}
theorem Un.any (u:Un fs ex H H1 h h1) {b:Addr}{ob:Obj} (q:h.get? b=some ob) (n:H b=none) (hx:b∉ex):∃ sl,h1.get? b=some { ob with slots:=sl }:=by
 by_cases hb:b∈fs
 ·exact u.slot b ob q n hb hx
 ·exact⟨ob.slots,u.keep b ob q n hb hx⟩
theorem Un.trans (a:Un fs ex H H1 h h1) (b:Un fs ex H1 H2 h1 h2):Un fs ex H H2 h h2 where
 keep:=fun c ob q n hc hx=>b.keep c ob (a.keep c ob q n hc hx) (a.free c ob q n hx) hc hx
 slot:=fun c ob q n hc hx=>by
  obtain⟨sl,e1⟩:=a.slot c ob q n hc hx
  obtain⟨OG,e2⟩:=b.slot c _ e1 (a.free c ob q n hx) hc hx
  exact⟨OG,e2⟩
 free:=fun c ob q n hx=>by
  obtain⟨o',e1⟩:=a.there c ob q hx
  exact b.free c o' e1 (a.free c ob q n hx) hx
 there:=fun c ob q hx=>by
  obtain⟨o',e1⟩:=a.there c ob q hx
  exact b.there c o' e1 hx
 iz:=fun c xs q=>b.iz c xs (a.iz c xs q)
 sO:=fun c ob xs q=>b.sO c ob xs (a.sO c ob xs q)
 uU:=fun c ps q=>by
  obtain⟨m1,e1⟩:=a.uU c ps q
  obtain⟨m2,e2⟩:=b.uU c _ e1
  exact⟨m1++m2,by rw[e2,Array.append_assoc]⟩
theorem Un.kept (k:∀ b u,h.get? b=some u→h'.get? b=some u):Un fs ex H H h h' :=
 ⟨fun b ob q _ _ _=>k b ob q,fun b ob q _ _ _=>⟨ob.slots,k b ob q⟩,fun _ _ _ n _=>n,fun b ob q _=>⟨ob,k b ob q⟩,fun _ _ q=>q,fun _ _ _ q=>q,fun _ ps q=>⟨#[],by rw[q];simp⟩⟩
theorem Un.refl:Un fs ex H H h h:=Un.kept fun _ _ q=>q
theorem Un.laid (k:∀ b u,h.get? b=some u→h'.get? b=some u) (hp:h.objs.size≤a) (hn:H a=none):Un fs ex H (upd H a o) h h' where
 keep:=fun b u q _ _ _=>k b u q
 slot:=fun b u q _ _ _=>⟨u.slots,k b u q⟩
 free:=fun b u q n _=>by rw[aF (Nat.ne_of_lt (Nat.lt_of_lt_of_le (Heap.lt_size q) hp))];exact n
 there:=fun b u q _=>⟨u,k b u q⟩
 iz:=fun b xs q=>by rw[aF (aG q hn)];exact q
 sO:=fun b u xs q=>by rw[aF (aG q hn)];exact q
 uU:=fun b ps q=>⟨#[],by rw[aF (aG q hn),q];simp⟩
theorem Un.write (mu:Ut (H x)) (he:e=x∨H e=some (.own x)) (k:∀ b u,b≠e→h.get? b=some u→h'.get? b=some u) (RK:∃ u,h'.get? e=some u):Un fs ex H (upd H x o) h h':=by
 have hx:∀ b,H b=none→b≠x:=fun b n z=>by subst z;rw[n] at mu;exact mu
 have hb:∀ b,H b=none→b≠e:=fun b n z=>by
  subst z
  rcases he with r | r
  ·exact hx b n r
  ·rw[n] at r;cases r
 have hm:∀ b u,H b=some u→¬ Ut (some u)→b≠x:=fun b u q nm z=>by subst z;rw[q] at mu;exact nm mu
 refine⟨fun b u q n _ _=>k b u (hb b n) q,fun b u q n _ _=>⟨u.slots,k b u (hb b n) q⟩,fun b u q n _=>by rw[aF (hx b n)];exact n,fun b u q _=>?_,
  fun b xs q=>by rw[aF (hm b _ q fun z=>z)];exact q,fun b u xs q=>by rw[aF (hm b _ q fun z=>z)];exact q,fun b ps q=>⟨#[],by rw[aF (hm b _ q fun z=>z),q];simp⟩⟩
 by_cases Qg:b=e
 ·subst Qg;exact RK
 ·exact⟨u,k b u Qg q⟩
theorem Un.mono (u:Un fs ex H H1 h h1) (hs:∀ b∈fs,b∈Vd) (hx:∀ b∈ex,b∈Xe):Un Vd Xe H H1 h h1 :=
 ⟨fun b ob q n hb he=>u.keep b ob q n (fun z=>hb (hs b z)) fun z=>he (hx b z),fun _ _ q n _ he=>u.any q n fun z=>he (hx _ z),fun b ob q n he=>u.free b ob q n fun z=>he (hx b z),fun b ob q he=>u.there b ob q fun z=>he (hx b z),u.iz,u.sO,u.uU⟩
end
def Uu (h:Heap) (H:Hp):List Addr:=(List.range h.objs.size).filter fun a=>(H a).isSome
def Fy (h:Heap) (H:Hp):Heap:=PySem.W.hideAll h (Uu h H)
theorem LH (h:Heap) (H:Hp):(Fy h H).objs.size=h.objs.size:=PySem.W.hideAll_size _ _
theorem MO {h:Heap}{H:Hp}{b:Addr}{o:Obj} (e:h.get? b=some o) (n:H b=none):(Fy h H).get? b=some o :=
 PySem.W.hideAll_get _ e fun hm=>by
  have q:(H b).isSome=true:=(List.mem_filter.mp hm).2
  rw[n] at q;simp at q
theorem OH {h:Heap}{H:Hp}{b:Addr}{o:Obj} (e:(Fy h H).get? b=some o):h.get? b=some o∧H b=none:=by
 have e':h.get? b=some o:=PySem.W.of_hideAll (Uu h H) e
 refine⟨e',?_⟩
 cases q:H b with
 | none=>rfl
 | some x =>
  have hm:b∈Uu h H:=List.mem_filter.mpr ⟨List.mem_range.mpr (Heap.lt_size e'),by simp [q]⟩
  have z:(Fy h H).get? b=none:=PySem.W.hideAll_none (Uu h H) hm
  rw[z] at e;cases e
def OI (g h:Heap) (L:Addr):List (Addr×Obj):=(List.range h.objs.size).filterMap fun a=>if a=L∨(g.get? a).isSome=true then none else (h.get? a).map fun o=>(a,o)
def rest (g h:Heap) (L d:Addr):List (Addr×Obj):=(OI g h L).filter fun p=>decide (p.1≠d)
end L2
namespace L2
open PySem PySem.Spec PyProof.Rows
structure Mod (K:PySem.W.Frag) (mg:Str→Option Value) (base:Heap):Prop where
 Qh:K.In base
 glob:base.Ns mainGlobals mg
 blt:∃ mb,base.Ns builtinsNs mb∧∀ x:Str,x ≠ "__name__" → mb x=bootBuiltins x
 nolimit:base.NoLimit
structure Cx where
 prog:Program
 w:World
 K:PySem.W.Frag
 mg:Str→Option Value
 base:Heap
 A:Around
 N:List Str
 s₀:Shared
 H₀:Hp
 env:Env
 outer:List Env
 stack:List Env
 ex:List Addr
 fn:Str→Bool
 calm:Bool
 pn:List (Addr×Obj)
 xe:Value→Shared→Prop
def uD (l:List Env):List Addr:=l.filterMap (·.frame)
abbrev Cx.fs (X:Cx):List Addr:=uD X.outer
def Uv (sc:Scope) (x:Str):Prop:=sc.names.lookup x=some .local∨sc.names.lookup x=some .cell∨sc.names.lookup x=some .free
def Loc (sc:Scope) (x:Str):Prop:=sc.names.lookup x=some .local∨sc.names.lookup x=some .cell
def Look (env:Env) (h:Heap) (m:Str→Option Value) (x:Str) (u:Value):Prop :=
 (env.kindOf x=some .local∧m x=some u)∨((env.kindOf x=some .cell∨env.kindOf x=some .free)∧∃ c,env.cells.lookup x=some c∧h.IsCell c (some u))
structure Cx.Ok (X:Cx):Prop where
 mod:Mod X.K X.mg X.base
 kind:X.env.scope.kind=.function
 glob:X.env.globals=mainGlobals
 blt:X.env.builtins=builtinsNs
 above:X.s₀.heap.objs.size≤X.env.locals
 inj:∀ x y c,X.env.cells.lookup x=some c→X.env.cells.lookup y=some c→x=y
 has:∀ x,(X.env.kindOf x=some .cell∨X.env.kindOf x=some .free)→∃ c,X.env.cells.lookup x=some c
 RL:∀ x c,X.fn x=true→X.env.cells.lookup x=some c→X.s₀.heap.objs.size≤c
 hd:X.calm=true→X.A.handled=none
 frames:X.A.frames=some X.stack
 Sm:X.stack=X.outer∨(X.stack=X.env::X.outer∧X.env.frame=some X.env.locals)
 Ve:∀ b∈X.ex,b≠X.env.locals∧∀ x c,X.env.cells.lookup x=some c→c≠b
 bs:∀ b o,X.base.get? b=some o→X.s₀.heap.get? b=some o∧X.H₀ b=none
 KZ:X.base.objs.size≤X.s₀.heap.objs.size
 IP:∀ b o,X.base.get? b=some o→b∉X.ex
 MP:∀ b∈X.ex,b∉X.fs
 uV:X.s₀.heap.FunFrames X.base X.outer
 Oz:∀ b∈X.fs,X.H₀ b=none
structure Inv (X:Cx) (pins:List (Addr×Obj)) (σ:List (Option V)) (H:Hp) (s:Shared):Prop where
 ok:X.Ok
 os:s.os=X.s₀.os
 bare:AllBare s.gens
 base:Un X.fs X.ex X.H₀ H X.s₀.heap s.heap
 loc:∃ m,s.heap.Ns X.env.locals m∧∀ (i:Nat) (x:Str) (v:V),X.N[i]? = some x→σ[i]? = some (some v)→Uv X.env.scope x→∃ u,RelV v u∧Look X.env s.heap m x u
 cell:∀ x c,X.env.cells.lookup x=some c→∃ v,s.heap.IsCell c v
 free:H X.env.locals=none
 uF:∀ x c,X.env.cells.lookup x=some c→H c=none
 pin:∀ p∈X.pn++pins,s.heap.get? p.1=some p.2∧H p.1=none∧p.1≠X.env.locals∧p.1∉X.fs∧∀ v,p.2.data≠.cell v
 d4:wg X.prog X.w H s.heap
 len:σ.length=X.N.length
section
variable {X:Cx}{pins:List (Addr×Obj)}{σ:List (Option V)}{H H':Hp}{s:Shared}{h':Heap}
theorem Cx.Ok.Vf (ok:X.Ok) {b:Addr}{o:Obj} (e:X.base.get? b=some o):b∉X.fs:=fun hb=>by
 have:=(ok.uV.mem hb).1
 rw[e] at this;cases this
theorem Inv.bs (I:Inv X pins σ H s):∀ b o,X.base.get? b=some o→s.heap.get? b=some o∧H b=none:=fun b o e =>
 ⟨I.base.keep b o (I.ok.bs b o e).1 (I.ok.bs b o e).2 (I.ok.Vf e) (I.ok.IP b o e),I.base.free b o (I.ok.bs b o e).1 (I.ok.bs b o e).2 (I.ok.IP b o e)⟩
theorem Inv.bk (I:Inv X pins σ H s):∀ b o,X.base.get? b=some o→s.heap.get? b=some o:=fun b o e=>(I.bs b o e).1
theorem Inv.mod (I:Inv X pins σ H s):Mod X.K X.mg X.base:=I.ok.mod
theorem Inv.A1 (I:Inv X pins σ H s):X.K.In s.heap:=I.ok.mod.Qh.keeps I.bk
theorem Inv.nolimit (I:Inv X pins σ H s):s.heap.NoLimit:=I.ok.mod.nolimit.keeps I.bk
theorem Inv.fr (I:Inv X pins σ H s):∃ m,Fr X.base X.env.locals s.heap m :=
 let ⟨m,hn,_⟩:=I.loc
 ⟨m,hn,I.bk,Nat.le_trans I.ok.KZ I.ok.above⟩
theorem Inv.lt (I:Inv X pins σ H s):X.env.locals<s.heap.objs.size:=let ⟨_,hn,_⟩:=I.loc;hn.lt
theorem Inv.sz (I:Inv X pins σ H s):X.s₀.heap.objs.size≤s.heap.objs.size:=Nat.le_trans I.ok.above (Nat.le_of_lt I.lt)
theorem Inv.Vg (I:Inv X pins σ H s) {a:Addr} (h:s.heap.objs.size≤a):a∉X.fs:=fun hb=>by
 obtain⟨_,o,ho,_⟩:=I.ok.uV.mem hb
 exact absurd (Nat.lt_of_lt_of_le (Heap.lt_size ho) (Nat.le_trans I.sz h)) (Nat.lt_irrefl _)
theorem Inv.Qi (I:Inv X pins σ H s):∀ x c,X.env.cells.lookup x=some c→c≠X.env.locals:=fun x c e z=>by
 obtain⟨v,o,ho,hd⟩:=I.cell x c e
 obtain⟨m,⟨o',es,ep,CV,Et,_⟩,_⟩:=I.loc
 rw[z,CV] at ho;cases ho;rw[Et] at hd;cases hd
theorem Inv.uV (I:Inv X pins σ H s):s.heap.FunFrames X.base X.outer:=by
 have all:∀ (l:List Env),(∀ b∈uD l,b∈X.fs)→X.s₀.heap.FunFrames X.base l→s.heap.FunFrames X.base l:=by
  intro l
  induction l with
  | nil=>intro _ _;trivial
  | cons env r ih =>
   intro hs hl
   obtain⟨hk,⟨L,o,hf,hn,ho,hd⟩,hr⟩:=hl
   have hL:L∈X.fs:=hs L (by unfold uD;rw[List.filterMap_cons,hf];exact List.mem_cons_self)
   obtain⟨sl,e⟩:=I.base.slot L o ho (I.ok.Oz L hL) hL fun z=>I.ok.MP L z hL
   exact⟨hk,⟨L,_,hf,hn,e,hd⟩,ih (fun b hb=>hs b (by unfold uD;rw[List.filterMap_cons,hf];exact List.mem_cons_of_mem _ hb)) hr⟩
 exact all X.outer (fun _ hb=>hb) I.ok.uV
theorem Inv.stack (I:Inv X pins σ H s):s.heap.FunFrames X.base X.stack:=by
 rcases I.ok.Sm with e | ⟨e,hf⟩
 ·rw[e];exact I.uV
 ·rw[e]
  obtain⟨m,hn,_⟩:=I.loc
  refine .cons (by rw[I.ok.kind];decide) hf hn ?_ I.uV
  exact Heap.get?_none_of_le (Nat.le_trans I.ok.KZ I.ok.above)
theorem Inv.wG (I:Inv X pins σ H s):∀ b∈uD X.stack,b∈X.env.locals::X.fs:=fun b hb=>by
 rcases I.ok.Sm with e | ⟨e,hf⟩
 ·rw[e] at hb;exact List.mem_cons_of_mem _ hb
 ·rw[e] at hb
  unfold uD at hb
  rw[List.filterMap_cons,hf] at hb
  exact hb
theorem Inv.CM (I:Inv X pins σ H s):∀ b∈uD X.stack,H b=none:=fun b hb=>by
 rcases List.mem_cons.mp (I.wG b hb) with e | hb
 ·rw[e];exact I.free
 ·obtain⟨_,o,ho,_⟩:=I.ok.uV.mem hb
  exact I.base.free b o ho (I.ok.Oz b hb) fun z=>I.ok.MP b z hb
theorem Inv.step {g':Array GenState}{t':Nat}{d':Drawn}{ch:List Addr} (I:Inv X pins σ H s)
  (GW:∀ b∈ch,(b∈X.ex∨X.s₀.heap.objs.size≤b)∧b≠X.env.locals∧(∀ x c,X.env.cells.lookup x=some c→c≠b)∧∀ p∈X.pn++pins,p.1≠b)
  (keep:∀ b o,b≠X.env.locals→b∉X.fs→b∉ch→s.heap.get? b=some o→H b=none→h'.get? b=some o)
  (slot:∀ b o,b≠X.env.locals→b∈X.fs→b∉ch→s.heap.get? b=some o→H b=none→∃ sl,h'.get? b=some { o with slots:=sl }) (free:∀ b o,b∉ch→s.heap.get? b=some o→H b=none→H' b=none)
  (there:∀ b o,b∉ch→s.heap.get? b=some o→∃ o',h'.get? b=some o')
  (iz:∀ b xs,H b=some (.tup xs)→H' b=some (.tup xs)) (sO:∀ b o u,H b=some (.yE o u)→H' b=some (.yE o u)) (uU:∀ b ps,H b=some (.Pj ps)→∃ more,H' b=some (.Pj (ps++more)))
  (ns:∀ m,s.heap.Ns X.env.locals m→h'.Ns X.env.locals m) (d4:wg X.prog X.w H' h') (hg:AllBare g') :
  Inv X pins σ H' { s with heap:=h',gens:=g',drawn:=d',toks:=t' }:=by
 have Xf:∀ b o,X.s₀.heap.get? b=some o→b≠X.env.locals:=fun b o e=>Nat.ne_of_lt (Nat.lt_of_lt_of_le (Heap.lt_size e) I.ok.above)
 have Uw:∀ b o,X.s₀.heap.get? b=some o→b∉X.ex→b∉ch:=fun b o e hx hb=>by
  rcases (GW b hb).1 with z | z
  ·exact hx z
  ·exact absurd (Nat.lt_of_lt_of_le (Heap.lt_size e) z) (Nat.lt_irrefl _)
 have cellK:∀ x c,X.env.cells.lookup x=some c→∀ v,s.heap.IsCell c v→h'.IsCell c v:=fun x c e v ⟨o,ho,hd⟩=>by
  have Sn:c∉ch:=fun z=>(GW c z).2.2.1 x c e rfl
  by_cases hc:c∈X.fs
  ·obtain⟨sl,q⟩:=slot c o (I.Qi x c e) hc Sn ho (I.uF x c e)
   exact⟨_,q,hd⟩
  ·exact⟨o,keep c o (I.Qi x c e) hc Sn ho (I.uF x c e),hd⟩
 refine⟨I.ok,I.os,hg,⟨fun b o e n hb hx=>?_,fun b o e n hb hx=>?_,fun b o e n hx=>?_,fun b o e hx=>?_,fun b xs e=>iz b xs (I.base.iz b xs e),fun b o xs e=>sO b o xs (I.base.sO b o xs e),fun b ps e=>?_⟩,?_,fun x c e=>?_,?_,fun x c e=>?_,fun p hp=>?_,d4,I.len⟩
 ·exact keep b o (Xf b o e) hb (Uw b o e hx) (I.base.keep b o e n hb hx) (I.base.free b o e n hx)
 ·obtain⟨sl,e1⟩:=I.base.slot b o e n hb hx
  obtain⟨OG,e2⟩:=slot b _ (Xf b o e) hb (Uw b o e hx) e1 (I.base.free b o e n hx)
  exact⟨OG,e2⟩
 ·obtain⟨o',e1⟩:=I.base.there b o e hx
  exact free b o' (Uw b o e hx) e1 (I.base.free b o e n hx)
 ·obtain⟨o',e1⟩:=I.base.there b o e hx
  exact there b o' (Uw b o e hx) e1
 ·obtain⟨m1,e1⟩:=I.base.uU b ps e
  obtain⟨m2,e2⟩:=uU b _ e1
  exact⟨m1++m2,by rw[e2,Array.append_assoc]⟩
 ·obtain⟨m,hn,hl⟩:=I.loc
  refine⟨m,ns m hn,fun i x v e1 e2 e3=>?_⟩
  obtain⟨u,r,l⟩:=hl i x v e1 e2 e3
  refine⟨u,r,?_⟩
  rcases l with l | ⟨k,c,e,z⟩
  ·exact .inl l
  ·exact .inr ⟨k,c,e,cellK x c e _ z⟩
 ·obtain⟨v,z⟩:=I.cell x c e
  exact⟨v,cellK x c e v z⟩
 ·obtain⟨m,⟨o,_,_,ho,_⟩,_⟩:=I.loc
  exact free _ o (fun z=>(GW _ z).2.1 rfl) ho I.free
 ·obtain⟨v,o,ho,hd⟩:=I.cell x c e
  exact free c o (fun z=>(GW c z).2.2.1 x c e rfl) ho (I.uF x c e)
 ·obtain⟨e,n,ne,nf,d⟩:=I.pin p hp
  have Sn:p.1∉ch:=fun z=>(GW p.1 z).2.2.2 p hp rfl
  exact⟨keep p.1 p.2 ne nf Sn e n,free p.1 p.2 Sn e n,ne,nf,d⟩
theorem Inv.un {t':Nat} (I:Inv X pins σ H s) (u:Un X.fs [] H H' s.heap h') (d4:wg X.prog X.w H' h'):Inv X pins σ H' { s with heap:=h',toks:=t' }:=by
 obtain⟨m,⟨o,es,ep,ho,r⟩,_⟩:=id I.loc
 obtain⟨sl,hL⟩:=u.any ho I.free (by simp)
 exact I.step (g':=s.gens) (d':=s.drawn) (ch:=[]) (fun _ z=>nomatch z) (fun b o _ hb _ e n=>u.keep b o e n hb (by simp)) (fun b o _ hb _ e n=>u.slot b o e n hb (by simp)) (fun b o _ e n=>u.free b o e n (by simp)) (fun b o _ e=>u.there b o e (by simp)) u.iz u.sO u.uU (fun m' hm=>by
  obtain⟨o',Vh,Vi,CV,r'⟩:=hm
  rw[ho] at CV;cases CV
  exact⟨_,Vh,Vi,hL,r'⟩) d4 I.bare
theorem Inv.call {g':Array GenState}{t':Nat}{d':Drawn}{ch:List Addr} (I:Inv X pins σ H s) (u:Un (uD X.stack) ch H H' s.heap h') (d4:wg X.prog X.w H' h') (hg:AllBare g')
  (GW:∀ b∈ch,(b∈X.ex∨X.s₀.heap.objs.size≤b)∧b≠X.env.locals∧(∀ x c,X.env.cells.lookup x=some c→c≠b)∧∀ p∈X.pn++pins,p.1≠b) :
  Inv X pins σ H' { s with heap:=h',gens:=g',drawn:=d',toks:=t' }:=by
 obtain⟨m,⟨o,es,ep,ho,r⟩,_⟩:=id I.loc
 obtain⟨sl,hL⟩:=u.any ho I.free fun z=>(GW _ z).2.1 rfl
 exact I.step (ch:=ch) GW (fun b o hL hb hc e n=>u.keep b o e n (fun z=>(List.mem_cons.mp (I.wG b z)).elim hL hb) hc) (fun b o _ _ hc e n=>u.any e n hc) (fun b o hc e n=>u.free b o e n hc) (fun b o hc e=>u.there b o e hc) u.iz u.sO u.uU (fun m' hm=>by
  obtain⟨o',Vh,Vi,CV,r'⟩:=hm
  rw[ho] at CV;cases CV
  exact⟨_,Vh,Vi,hL,r'⟩) d4 hg
theorem Inv.turned {t':Nat}{it:Addr} (I:Inv X pins σ H s) (k:∀ b o,b≠it→s.heap.get? b=some o→h'.get? b=some o) (hn:H it=none) (hL:it≠X.env.locals)
  (h1:it∈X.ex∨X.s₀.heap.objs.size≤it) (h2:∀ x c,X.env.cells.lookup x=some c→c≠it) (h3:∀ p∈X.pn++pins,p.1≠it):Inv X pins σ H { s with heap:=h',toks:=t' }:=by
 have Pk:∀ b u,H b=some u→b≠it:=fun b u e z=>by rw[z,hn] at e;cases e
 refine I.step (g':=s.gens) (d':=s.drawn) (ch:=[it]) (fun b hb=>?_) (fun b o _ _ hc e _=>k b o (fun z=>hc (by simp [z])) e) (fun b o _ _ hc e _=>⟨o.slots,k b o (fun z=>hc (by simp [z])) e⟩) (fun _ _ _ _ n=>n)
  (fun b o hc e=>⟨o,k b o (fun z=>hc (by simp [z])) e⟩) (fun _ _ e=>e) (fun _ _ _ e=>e) (fun b ps e=>⟨#[],by rw[e];simp⟩) (fun m hm=>?_) (fun b u e=>?_) I.bare
 ·have e:b=it:=by simpa using hb
  subst e
  exact⟨h1,hL,h2,h3⟩
 ·obtain⟨o,es,ep,ho,r⟩:=hm
  exact⟨o,es,ep,k _ o (Ne.symm hL) ho,r⟩
 ·refine (I.d4 b u e).rj (fun c v hc q=>k c v ?_ q) (fun _ q=>q) fun _ _ q=>q
  rcases hc with z | z
  ·rw[z];exact Pk b u e
  ·exact Pk c _ z
theorem Inv.tok (I:Inv X pins σ H s) (t:Nat):Inv X pins σ H { s with toks:=t }:=I.un (h':=s.heap) (t':=t) Un.refl I.d4
theorem Inv.kept {t':Nat} (I:Inv X pins σ H s) (k:∀ b u,s.heap.get? b=some u→h'.get? b=some u):Inv X pins σ H { s with heap:=h',toks:=t' }:=I.un (Un.kept k) (I.d4.kept k)
theorem Inv.laid {a:Addr}{o:HO}{t':Nat} (I:Inv X pins σ H s) (k:∀ b u,s.heap.get? b=some u→h'.get? b=some u) (hp:s.heap.objs.size≤a) (new:gj X.prog X.w (upd H a o) h' a o) :
  Inv X pins σ (upd H a o) { s with heap:=h',toks:=t' }:=I.un (Un.laid k hp (I.d4.fresh hp)) (I.d4.laid k hp new)
theorem Inv.write {x e:Addr}{o:HO}{t':Nat} (I:Inv X pins σ H s) (mu:Ut (H x)) (he:e=x∨H e=some (.own x)) (k:∀ b u,b≠e→s.heap.get? b=some u→h'.get? b=some u) (RK:∃ u,h'.get? e=some u)
  (new:gj X.prog X.w (upd H x o) h' x o):Inv X pins σ (upd H x o) { s with heap:=h',toks:=t' }:=I.un (Un.write mu he k RK) (I.d4.write mu he k RK new)
theorem Inv.qK {pins':List (Addr×Obj)} (I:Inv X pins σ H s) (h:∀ p∈pins',s.heap.get? p.1=some p.2∧H p.1=none∧p.1≠X.env.locals∧p.1∉X.fs∧∀ v,p.2.data≠.cell v):Inv X pins' σ H s :=
 ⟨I.ok,I.os,I.bare,I.base,I.loc,I.cell,I.free,I.uF,fun p hp=>(List.mem_append.mp hp).elim (fun z=>I.pin p (List.mem_append_left _ z)) (h p),I.d4,I.len⟩
theorem G6 {N:List Str} (hN:N.Nodup) {i j:Nat}{x:Str} (a:N[i]? = some x) (b:N[j]? = some x):i=j:=by
 obtain⟨h1,e1⟩:=List.getElem?_eq_some_iff.mp a
 obtain⟨h2,e2⟩:=List.getElem?_eq_some_iff.mp b
 exact (List.getElem_inj hN).mp (e1.trans e2.symm)
theorem LI {M:Model}{A:Around}{E:Value→Shared→Prop}{i:Nat}{x:Str}{v:V}{u:Value}{Q:Unit→Shared→Prop} (I:Inv X pins σ H s) (hN:X.N.Nodup) (hi:X.N[i]? = some x) (hx:Loc X.env.scope x) (r:RelV v u)
  (h : ∀ s', Inv X pins (σ.set i (some v)) H s' → (∃ a, Heap.SameBut a s.heap s'.heap ∧ (a = X.env.locals ∨ X.env.cells.lookup x = some a)) → Q () s') (hf : X.fn x = true ∨ X.env.scope.names.lookup x = some .local := by first | exact .inl rfl | exact .inr rfl | assumption) : wpAny M A (storeName X.env x u) Q E s := by
 obtain⟨m,hn,hl⟩:=id I.loc
 have Vj:(X.env.scope.kind==.class||(X.env.scope.kind==.module&&X.env.locals != X.env.globals))=false:=by rw[I.ok.kind];rfl
 have Xg:i<σ.length:=by rw[I.len];exact (List.getElem?_eq_some_iff.mp hi).1
 have Qi:=I.Qi
 have tracked:∀ {a:Addr}{h':Heap},(∃ o,s.heap.get? a=some o∧H a=none)→Heap.SameBut a s.heap h'→wg X.prog X.w H h':=fun {a h'} ha hs b ob e=>by
  obtain⟨_,_,Pl⟩:=ha
  refine (I.d4 b ob e).rj (fun c w' hc q=>(hs.2 c ?_).trans q) (fun _ q=>q) fun _ _ q=>q
  rintro rfl
  rcases hc with rfl | hc
  ·rw[Pl] at e;cases e
  ·rw[Pl] at hc;cases hc
 rcases hx with hk | hk
 ·refine wpAny_storeName_local hk hn (fun h' RM hs=>?_) Vj
  obtain⟨oL,_,_,Yr,_⟩:=id hn
  refine h _ ⟨I.ok,I.os,I.bare,⟨fun b o e n hb hx=>?_,fun b o e n hb hx=>?_,I.base.free,fun b o e hx=>?_,I.base.iz,I.base.sO,I.base.uU⟩,⟨_,RM,fun j y v' e1 e2 e3=>?_⟩,fun y c e=>?_,I.free,I.uF,fun p hp=>?_,tracked ⟨oL,Yr,I.free⟩ hs,by simpa using I.len⟩ ⟨_,hs,.inl rfl⟩
  ·exact (hs.2 b (Nat.ne_of_lt (Nat.lt_of_lt_of_le (Heap.lt_size e) I.ok.above))).trans (I.base.keep b o e n hb hx)
  ·obtain⟨sl,e1⟩:=I.base.slot b o e n hb hx
   exact⟨sl,(hs.2 b (Nat.ne_of_lt (Nat.lt_of_lt_of_le (Heap.lt_size e) I.ok.above))).trans e1⟩
  ·obtain⟨o',e1⟩:=I.base.there b o e hx
   exact⟨o',(hs.2 b (Nat.ne_of_lt (Nat.lt_of_lt_of_le (Heap.lt_size e) I.ok.above))).trans e1⟩
  ·by_cases hj:j=i
   ·subst hj
    rw[hi] at e1;cases e1
    rw[List.getElem?_set_self Xg] at e2
    cases e2
    exact⟨u,r,.inl ⟨hk,by simp⟩⟩
   ·rw[List.getElem?_set_ne (Ne.symm hj)] at e2
    obtain⟨u',r',q⟩:=hl j y v' e1 e2 e3
    refine⟨u',r',?_⟩
    rcases q with ⟨k,e⟩ | ⟨k,c,e,z⟩
    ·refine .inl ⟨k,?_⟩
     have:y≠x:=fun e=>hj (G6 hN e1 (e▸hi))
     simp [this,e]
    ·exact .inr ⟨k,c,e,z.sameBut hs (Qi y c e)⟩
  ·obtain⟨w',z⟩:=I.cell y c e
   exact⟨w',z.sameBut hs (Qi y c e)⟩
  ·obtain⟨e,n,ne,nf,d⟩:=I.pin p hp
   exact⟨(hs.2 p.1 ne).trans e,n,ne,nf,d⟩
 ·have Vk:X.fn x=true:=by
   rcases hf with z | z
   ·exact z
   ·rw[z] at hk;cases hk
  obtain⟨c,hc⟩:=I.ok.has x (.inl hk)
  obtain⟨w',z⟩:=I.cell x c hc
  refine wpAny_storeName_cell I.ok.kind hk hc z (fun h' LJ hs=>?_)
  obtain⟨oc,E3,Vl⟩:=id z
  refine h { s with heap:=h' } ⟨I.ok,I.os,I.bare,⟨fun b o e n hb hx=>?_,fun b o e n hb hx=>?_,I.base.free,fun b o e hx=>?_,I.base.iz,I.base.sO,I.base.uU⟩,⟨m,hn.sameBut hs (Ne.symm (Qi x c hc)),fun j y v' e1 e2 e3=>?_⟩,fun y c' e=>?_,I.free,I.uF,fun p hp=>?_,tracked ⟨oc,E3,I.uF x c hc⟩ hs,by simpa using I.len⟩ ⟨c,hs,.inr hc⟩
  ·exact (hs.2 b (Nat.ne_of_lt (Nat.lt_of_lt_of_le (Heap.lt_size e) (I.ok.RL x c Vk hc)))).trans (I.base.keep b o e n hb hx)
  ·obtain⟨sl,e1⟩:=I.base.slot b o e n hb hx
   exact⟨sl,(hs.2 b (Nat.ne_of_lt (Nat.lt_of_lt_of_le (Heap.lt_size e) (I.ok.RL x c Vk hc)))).trans e1⟩
  ·obtain⟨o',e1⟩:=I.base.there b o e hx
   exact⟨o',(hs.2 b (Nat.ne_of_lt (Nat.lt_of_lt_of_le (Heap.lt_size e) (I.ok.RL x c Vk hc)))).trans e1⟩
  ·by_cases hj:j=i
   ·subst hj
    rw[hi] at e1;cases e1
    rw[List.getElem?_set_self Xg] at e2
    cases e2
    exact⟨u,r,.inr ⟨.inl hk,c,hc,LJ⟩⟩
   ·rw[List.getElem?_set_ne (Ne.symm hj)] at e2
    obtain⟨u',r',q⟩:=hl j y v' e1 e2 e3
    refine⟨u',r',?_⟩
    rcases q with q | ⟨k,c',e,z'⟩
    ·exact .inl q
    ·refine .inr ⟨k,c',e,z'.sameBut hs ?_⟩
     rintro rfl
     exact hj (G6 hN e1 (I.ok.inj _ _ _ e hc▸hi))
  ·by_cases Vm:c'=c
   ·subst Vm;exact⟨_,LJ⟩
   ·obtain⟨w2,z2⟩:=I.cell y c' e
    exact⟨w2,z2.sameBut hs Vm⟩
  ·obtain⟨e,n,ne,nf,d⟩:=I.pin p hp
   refine⟨(hs.2 p.1 ?_).trans e,n,ne,nf,d⟩
   intro q
   rw[q,E3] at e
   have q':oc=p.2:=Option.some.inj e
   exact d w' (by rw[←q'];exact Vl)
theorem z5 {M:Model}{A:Around}{E:Value→Shared→Prop}{i:Nat}{x:Str}{v:V}{u:Value}{Q:Unit→Shared→Prop} (I:Inv X pins σ H s) (hN:X.N.Nodup) (hi:X.N[i]? = some x) (hx:Loc X.env.scope x) (r:RelV v u)
  (h : ∀ s', Inv X pins (σ.set i (some v)) H s' → Q () s') (hf : X.fn x = true ∨ X.env.scope.names.lookup x = some .local := by first | exact .inl rfl | exact .inr rfl | assumption) : wpAny M A (storeName X.env x u) Q E s :=
 LI I hN hi hx r (fun s' I' _=>h s' I') hf
theorem Inv.Pm {s':Shared}{ch:List Addr} (I:Inv X pins σ H s) (ho:s'.os=s.os) (u:Un (uD X.stack) ch H H' s.heap s'.heap) (d4:wg X.prog X.w H' s'.heap) (hg:AllBare s'.gens)
  (GW:∀ b∈ch,(b∈X.ex∨X.s₀.heap.objs.size≤b)∧b≠X.env.locals∧(∀ x c,X.env.cells.lookup x=some c→c≠b)∧∀ p∈X.pn++pins,p.1≠b):Inv X pins σ H' s':=by
 obtain⟨h',g',d',t',o'⟩:=s'
 have e:o'=s.os:=ho
 subst e
 exact I.call (g':=g') (t':=t') (d':=d') u d4 hg GW
end
abbrev XK:=Value→Option Addr→Hp→Prop
abbrev St:=List (Option V)
abbrev VK:=V→Hp→Prop
abbrev TE:=St→Hp→VK→Prop
abbrev TT:=St→Hp→(Bool→Hp→Prop)→Prop
abbrev TA:=St→Hp→(List V→Hp→Prop)→Prop
structure Ends where
 nx:St→Hp→Prop
 rt:VK
 bk:St→Hp→Prop:=fun _ _=>False
 ct:St→Hp→Prop:=fun _ _=>False
abbrev TS:=Ends→St→Hp→Prop
def EP (X:Cx) (pins:List (Addr×Obj)) (σ:St) (Q:VK) (u:Value) (s':Shared):Prop:=∃ v H',Inv X pins σ H' s'∧RelV v u∧Q v H'
def TP (X:Cx) (pins:List (Addr×Obj)) (σ:St) (Q:Bool→Hp→Prop) (b:Bool) (s':Shared):Prop:=∃ H',Inv X pins σ H' s'∧Q b H'
def AP (X:Cx) (pins:List (Addr×Obj)) (σ:St) (Q:List V→Hp→Prop) (us:List Value) (s':Shared):Prop:=∃ vs H',Inv X pins σ H' s'∧Vals vs us∧Q vs H'
def SP (X:Cx) (pins:List (Addr×Obj)) (D:Ends) (f:Flow) (s':Shared):Prop :=
 match f with
 | .next=>∃ σ' H',Inv X pins σ' H' s'∧D.nx σ' H'
 | .brk=>∃ σ' H',Inv X pins σ' H' s'∧D.bk σ' H'
 | .cont=>∃ σ' H',Inv X pins σ' H' s'∧D.ct σ' H'
 | .ret u=>∃ v σ' H',Inv X pins σ' H' s'∧RelV v u∧D.rt v H'
def PE (X:Cx) (e:Expr) (t:TE):Prop :=
 ∀ (pins:List (Addr×Obj)) (s:Shared) (σ:St) (H:Hp) (Q:VK),Inv X pins σ H s→t σ H Q→wpAny (model X.prog X.w) X.A (eval e X.env) (EP X pins σ Q) X.xe s
def PT (X:Cx) (e:Expr) (t:TT):Prop :=
 ∀ (pins:List (Addr×Obj)) (s:Shared) (σ:St) (H:Hp) (Q:Bool→Hp→Prop),Inv X pins σ H s→t σ H Q→wpAny (model X.prog X.w) X.A (isTrue e X.env (eval e X.env)) (TP X pins σ Q) X.xe s
def PW (X:Cx) (e:Expr) (t:TT):Prop :=
 ∀ (whole:Sem Value) (pins:List (Addr×Obj)) (s:Shared) (σ:St) (H:Hp) (Q:Bool→Hp→Prop),Inv X pins σ H s→t σ H Q→wpAny (model X.prog X.w) X.A (isTrue e X.env whole) (TP X pins σ Q) X.xe s
theorem PW.pt {X:Cx}{e:Expr}{t:TT} (h:PW X e t):PT X e t:=h _
def PA (X:Cx) (es:List Expr) (t:TA):Prop :=
 ∀ (pos:Pos) (pins:List (Addr×Obj)) (s:Shared) (σ:St) (H:Hp) (Q:List V→Hp→Prop),Inv X pins σ H s→t σ H Q→wpAny (model X.prog X.w) X.A (spliced (backTo pos (starEach es X.env))) (AP X pins σ Q) X.xe s
def PS (X:Cx) (st:Stmt) (t:TS):Prop :=
 ∀ (pins:List (Addr×Obj)) (s:Shared) (σ:St) (H:Hp) (D:Ends),Inv X pins σ H s→t D σ H→wpAny (model X.prog X.w) X.A (exec st X.env) (SP X pins D) X.xe s
def K0 (X:Cx) (st:List Stmt) (t:TS):Prop :=
 ∀ (pins:List (Addr×Obj)) (s:Shared) (σ:St) (H:Hp) (D:Ends),Inv X pins σ H s→t D σ H→wpAny (model X.prog X.w) X.A (execs st X.env) (SP X pins D) X.xe s
theorem gZ {α:Type}{t:Sem α}{Q Q':α→Shared→Prop}{M:Model}{A:Around}{E:Value→Shared→Prop}{s:Shared} (h:wpAny M A t Q E s) (hQ:∀ a s,Q a s→Q' a s):wpAny M A t Q' E s:=wpAny_mono h hQ fun _ _ x=>x
end L2
namespace L2
open PySem PySem.Spec PyProof.Rows
section
variable {X:Cx}
def tVar (i:Nat):TE:=fun σ H Q=>∃ v,σ[i]? = some (some v)∧Q v H
def tC (v:V):TE:=fun _ H Q=>Q v H
theorem Qj {i:Nat}{x:Str}{pos:Pos} (hN:X.N[i]? = some x) (hv:Uv X.env.scope x) (hd:(x==("__debug__" : Str))=false:=by decide) (LK:(x==("__classdict__" : Str))=false:=by decide):PE X (.Name x pos) (tVar i):=by
 intro pins s σ H Q I h
 obtain⟨v,e,h⟩:=h
 obtain⟨m,hn,hl⟩:=I.loc
 obtain⟨u,r,l⟩:=hl i x v hN e hv
 have fin:EP X pins σ Q u s:=⟨v,H,I,r,h⟩
 rcases l with ⟨hk,hm⟩ | ⟨hk,c,hc,BQ⟩
 ·exact wpAny_Name (wpAny_loadName_local I.ok.kind hk hn hm fin) hd
 ·rcases hk with hk | hk
  ·exact wpAny_Name (wpAny_loadName_cell I.ok.kind hk hc BQ fin) hd
  ·exact wpAny_Name (wpAny_loadName_free I.ok.kind hk hc BQ fin LK) hd
theorem aj {i j pos}:PE X (.Constant (.int i) j pos) (tC (.int i)):=fun _ _ _ H _ I h=>wpAny_Constant_int ⟨.int i,H,I.tok _,⟨_,rfl⟩,h⟩
theorem jP {b j pos}:PE X (.Constant (.bool b) j pos) (tC (.bl b)):=fun _ _ _ H _ I h=>Constant_bool ⟨.bl b,H,I,rfl,h⟩
theorem bI {x j pos}:PE X (.Constant (.str x) j pos) (tC (.str x)):=fun _ _ _ H _ I h=>Calls.Constant_str ⟨.str x,H,I.tok _,⟨_,rfl⟩,h⟩
def Gl (X:Cx) (x:Str):Prop:=X.env.kindOf x=some .globalImplicit
theorem z7 {E:Value→Shared→Prop}{pins:List (Addr×Obj)}{s:Shared}{σ:St}{H:Hp}{x:Str}{u:Value}{pos:Pos}{Q:Value→Shared→Prop} (I:Inv X pins σ H s) (hg:Gl X x) (hm:X.mg x=some u) (h:Q u s)
  (hd:(x==("__debug__" : Str))=false:=by decide):wpAny (model X.prog X.w) X.A (eval (.Name x pos) X.env) Q E s :=
 Calls.Name_function_global I.ok.kind hg (Calls.loadGlobal_global (by rw[I.ok.glob];exact I.mod.glob.keeps I.bk) hm h) hd
theorem y1 {E:Value→Shared→Prop}{pins:List (Addr×Obj)}{s:Shared}{σ:St}{H:Hp}{x:Str}{u:Value}{pos:Pos}{Q:Value→Shared→Prop} (I:Inv X pins σ H s) (hg:Gl X x) (hm:X.mg x=none) (hv:bootBuiltins x=some u) (h:Q u s)
  (hn:x ≠ "__name__" := by decide) (hd:(x==("__debug__" : Str))=false:=by decide):wpAny (model X.prog X.w) X.A (eval (.Name x pos) X.env) Q E s:=by
 obtain⟨mb,h1,h2⟩:=I.mod.blt
 exact Calls.Name_function_global I.ok.kind hg (Calls.loadGlobal_builtin (by rw[I.ok.glob];exact I.mod.glob.keeps I.bk) hm (by rw[I.ok.blt];exact h1.keeps I.bk) ((h2 x hn).trans hv) h) hd
theorem uW {x:Str}{v:V}{u:Value}{pos:Pos} (hg:Gl X x) (hm:X.mg x=some u) (r:RelV v u) (hd:(x==("__debug__" : Str))=false:=by decide):PE X (.Name x pos) (tC v) :=
 fun _ _ _ H _ I h=>z7 I hg hm ⟨v,H,I,r,h⟩ hd
theorem OJ {x:Str}{v:V}{u:Value}{pos:Pos} (hg:Gl X x) (hm:X.mg x=none) (hv:bootBuiltins x=some u) (r:RelV v u) (hn:x ≠ "__name__" := by decide) (hd:(x==("__debug__" : Str))=false:=by decide):PE X (.Name x pos) (tC v) :=
 fun _ _ _ H _ I h=>y1 I hg hm hv ⟨v,H,I,r,h⟩ hn hd
def Ys (ta tb:TE) (k:Int→Int→Hp→Prop):St→Hp→Prop:=fun σ H=>ta σ H fun x H1=>tb σ H1 fun y H2=>∃ i j,x=.int i∧y=.int j∧k i j H2
variable {a b:Expr}{ta tb:TE}{pos:Pos}
def PC (X:Cx) (op:CmpOp) (a b:Expr) (t:TE):Prop :=
 ∀ (pins:List (Addr×Obj)) (s:Shared) (σ:St) (H:Hp) (Q:VK),Inv X pins σ H s→t σ H Q →
  wpAny (model X.prog X.w) X.A (eval a X.env) (fun v s₁=>wpAny (model X.prog X.w) X.A (eval b X.env) (fun u s₂=>wpAny (model X.prog X.w) X.A (compareOp op v u) (EP X pins σ Q) X.xe s₂) X.xe s₁) X.xe s
theorem MQ (b:Expr) {op:CmpOp} (h:op≠.In) (h2:op≠.NotIn):behindInMarks op b=false:=by
 have e1:(op==CmpOp.In)=false:=by cases op<;>first | rfl | exact absurd rfl h
 have e2:(op==CmpOp.NotIn)=false:=by cases op<;>first | rfl | exact absurd rfl h2
 cases b<;>simp [behindInMarks,e1,e2]
def LL (p:Int→Int→Bool) (ta tb:TE):TE:=fun σ H Q=>Ys ta tb (fun i j H2=>Q (.bl (p i j)) H2) σ H
abbrev tLt:TE→TE→TE:=LL fun i j=>decide (i<j)
abbrev tLe:TE→TE→TE:=LL fun i j=>decide (i≤j)
abbrev tGt:TE→TE→TE:=LL fun i j=>decide (j<i)
abbrev tGe:TE→TE→TE:=LL fun i j=>decide (j≤i)
abbrev Yt:TE→TE→TE:=LL fun i j=>decide (i=j)
abbrev Yu:TE→TE→TE:=LL fun i j => !decide (i=j)
def tB (t:TE):TT:=fun σ H Q=>t σ H fun x H1=>∃ c,x=.bl c∧Q c H1
theorem Qk {op:CmpOp}{t:TE} (h:PC X op a b t) (h1:behindInMarks op b=false:=by first | exact MQ _ (by decide) (by decide) | rfl):PT X (.Compare a [op] [b] pos) (tB t):=by
 intro pins s σ H Q I hw
 refine wpAny_isTrue_Compare1 (gZ (h pins s σ H _ I hw) fun v s1 h1=>gZ h1 fun u s2 h2=>gZ h2 fun c s3 ⟨x,H1,I1,r1,q1⟩=>?_) h1
 obtain⟨d,rfl,q⟩:=q1
 cases r1
 exact wpAny_truthy_bool ⟨H1,I1,q⟩
theorem mS {e:Expr}{t:TE} (h:PE X e t) (he:∀ whole,isTrue e X.env whole=(do let v ←whole;standAt e.pos;holding [v] (truthy v)):=by intro _;rfl):PT X e (tB t):=by
 intro pins s σ H Q I hw
 refine isTrue_plain (gZ (h pins s σ H _ I hw) fun v s1 ⟨x,H1,I1,r1,q1⟩=>?_) (he _)
 obtain⟨d,rfl,q⟩:=q1
 cases r1
 exact wpAny_truthy_bool ⟨H1,I1,q⟩
variable {tA Ux:TT}{rest:List Expr}
def tAnd (t u:TT):TT:=fun σ H Q=>t σ H fun c H1=>if c=true then u σ H1 Q else Q false H1
def tOr (t u:TT):TT:=fun σ H Q=>t σ H fun c H1=>if c=true then Q true H1 else u σ H1 Q
def tNot (t:TT):TT:=fun σ H Q=>t σ H fun c H1=>Q (!c) H1
theorem pw_and1 (ha:PT X a tA):PW X (.BoolOp .And [a] pos) tA:=by
 intro wh pins s σ H Q I h
 refine isTrue_and (gZ (ha pins s σ H Q I h) fun c s1 e=>?_)
 cases c with
 | true=>exact isTrue_and_nil e
 | false=>exact e
theorem pw_or1 (ha:PT X a tA):PW X (.BoolOp .Or [a] pos) tA:=by
 intro wh pins s σ H Q I h
 refine isTrue_or (gZ (ha pins s σ H Q I h) fun c s1 e=>?_)
 cases c with
 | false=>exact isTrue_or_nil e
 | true=>exact e
theorem pw_and (ha:PT X a tA) (hb:PW X (.BoolOp .And (b::rest) pos) Ux):PW X (.BoolOp .And (a::b::rest) pos) (tAnd tA Ux):=by
 intro wh pins s σ H Q I h
 refine isTrue_and (gZ (ha pins s σ H _ I h) fun c s1 ⟨H1,I1,q1⟩=>?_)
 cases c with
 | true=>exact hb wh pins s1 σ H1 Q I1 q1
 | false=>exact⟨H1,I1,q1⟩
theorem pw_or (ha:PT X a tA) (hb:PW X (.BoolOp .Or (b::rest) pos) Ux):PW X (.BoolOp .Or (a::b::rest) pos) (tOr tA Ux):=by
 intro wh pins s σ H Q I h
 refine isTrue_or (gZ (ha pins s σ H _ I h) fun c s1 ⟨H1,I1,q1⟩=>?_)
 cases c with
 | true=>exact⟨H1,I1,q1⟩
 | false=>exact hb wh pins s1 σ H1 Q I1 q1
theorem nJ (ha:PT X a tA):PT X (.UnaryOp .Not a pos) (tNot tA):=by
 intro pins s σ H Q I h
 exact isTrue_not (ha pins s σ H (fun c H1=>Q (!c) H1) I h)
def tAndV (ta tb:TE):TE:=fun σ H Q=>ta σ H fun x H1=>∃ c,x=.bl c∧if c=true then tb σ H1 Q else Q (.bl false) H1
def tOrV (ta tb:TE):TE:=fun σ H Q=>ta σ H fun x H1=>∃ c,x=.bl c∧if c=true then Q (.bl true) H1 else tb σ H1 Q
def tNotV (ta:TE):TE:=fun σ H Q=>ta σ H fun x H1=>∃ c,x=.bl c∧Q (.bl (!c)) H1
theorem CW {op}{t:TE} (h:PE X a t):PE X (.BoolOp op [a] pos) t:=fun pins s σ H Q I hw=>BoolOp_one (h pins s σ H Q I hw)
theorem CY (ha:PE X a ta) (hb:PE X (.BoolOp .And (b::rest) pos) tb):PE X (.BoolOp .And (a::b::rest) pos) (tAndV ta tb):=by
 intro pins s σ H Q I h
 refine BoolOp_and (gZ (ha pins s σ H _ I h) fun v s1 ⟨x,H1,I1,r1,q1⟩=>?_)
 obtain⟨c,rfl,q1⟩:=q1
 cases r1
 refine wpAny_truthy_bool ?_
 cases c with
 | true=>exact hb pins s1 σ H1 Q I1 q1
 | false=>exact⟨.bl false,H1,I1,rfl,q1⟩
theorem MR (ha:PE X a ta):PE X (.UnaryOp .Not a pos) (tNotV ta):=by
 intro pins s σ H Q I h
 refine UnaryOp_ (gZ (ha pins s σ H _ I h) fun v s1 ⟨x,H1,I1,r1,q1⟩=>?_)
 obtain⟨c,rfl,q1⟩:=q1
 cases r1
 exact not_of (wpAny_truthy_bool ⟨.bl (!c),H1,I1,rfl,q1⟩)
def tIf (t:TT) (ta tb:TE):TE:=fun σ H Q=>t σ H fun c H1=>if c=true then ta σ H1 Q else tb σ H1 Q
theorem MS {c:Expr} (hc:PT X c tA) (ha:PE X a ta) (hb:PE X b tb):PE X (.IfExp c a b pos) (tIf tA ta tb):=by
 intro pins s σ H Q I h
 refine wpAny_IfExp (gZ (hc pins s σ H _ I h) fun d s1 ⟨H1,I1,q1⟩=>?_)
 cases d with
 | true=>exact ha pins s1 σ H1 Q I1 q1
 | false=>exact hb pins s1 σ H1 Q I1 q1
end
end L2
namespace L2
open PySem PySem.Spec PyProof.Rows
def bA (K:PySem.W.Frag) (H:Hp) (a:Addr) (xs:List V):Prop :=
 Rd H a (.lst xs) ∨
  ∃ (o:Obj) (bF:Array Value) (n:Nat),K.lookup a=some o∧o.cls=.type "list" ∧ o.dict=none∧o.data=.seq bF n∧bF.size≤sizeLine∧Vals xs bF.toList
def df (K:PySem.W.Frag) (H:Hp) (a:Addr) (xs:List V):Prop :=
 Rd H a (.tup xs) ∨
  ∃ (o:Obj) (bF:Array Value) (n:Nat),K.lookup a=some o∧o.cls=.type "tuple" ∧ o.data=.seq bF n∧bF.size≤sizeLine∧Vals xs bF.toList
def Vn:Value→Option V
 | .none=>some .cU
 | .bool b=>some (.bl b)
 | .int i _=>some (.int i)
 | .str x _=>some (.str x)
 | .bytes b _=>some (.KY b)
 | .float b _=>some (.Qe b)
 | .ref a=>some (.ref a)
 | .type n=>some (.ty n)
 | _=>none
theorem RelV.abs {x:V}{u:Value} (r:RelV x u):Vn u=some x:=by
 cases x with
 | cU=>cases r;rfl
 | bl _=>cases r;rfl
 | int _=>obtain⟨t,rfl⟩:=r;rfl
 | str _=>obtain⟨t,rfl⟩:=r;rfl
 | KY _=>obtain⟨t,rfl⟩:=r;rfl
 | Qe _=>obtain⟨t,rfl⟩:=r;rfl
 | ref _=>cases r;rfl
 | ty _=>cases r;rfl
theorem RelV.inj {x y:V}{u:Value} (r:RelV x u) (q:RelV y u):x=y:=Option.some.inj (r.abs.symm.trans q.abs)
theorem Vals.inj:∀ {xs ys:List V}{us:List Value},Vals xs us→Vals ys us→xs=ys
 | _,_,_,.nil,.nil=>rfl
 | _,_,_,.cons r t,.cons r' t'=>by rw[r.inj r',Vals.inj t t']
section
variable {X:Cx}{pins:List (Addr×Obj)}{σ:St}{H:Hp}{s:Shared}{a:Addr}{xs ys:List V}
theorem bA.of {K:PySem.W.Frag} (h:H a=some (.lst xs)):bA K H a xs:=.inl (.inl h)
theorem df.of {K:PySem.W.Frag} (h:H a=some (.tup xs)):df K H a xs:=.inl (.inl h)
theorem Inv.list (I:Inv X pins σ H s) (h:bA X.K H a xs):∃ bF:List Value,Vals xs bF∧PlainL s.heap a bF.toArray∧xs.length≤sizeLine:=by
 rcases h with h | ⟨o,bF,n,hk,hc,hd,hs,hz,r⟩
 ·obtain⟨z,bF,n,r,e⟩:=h.ok I.d4
  exact⟨bF,r,⟨_,n,e,rfl,rfl,rfl⟩,z⟩
 ·refine⟨bF.toList,r,⟨o,n,I.A1 a o hk,hc,hd,by simpa using hs⟩,?_⟩
  have e:=r.length
  simp only[Array.length_toList] at e
  omega
theorem Inv.tuple (I:Inv X pins σ H s) (h:df X.K H a xs):∃ bF:List Value,Vals xs bF∧IsTup s.heap a bF.toArray∧xs.length≤sizeLine:=by
 rcases h with h | ⟨o,bF,n,hk,hc,hs,hz,r⟩
 ·obtain⟨z,bF,r,p⟩:=h.ok I.d4
  exact⟨bF,r,p,z⟩
 ·refine⟨bF.toList,r,⟨o,I.A1 a o hk,hc,n,by simpa using hs⟩,?_⟩
  have e:=r.length
  simp only[Array.length_toList] at e
  omega
theorem Inv.MT (I:Inv X pins σ H s) (h:bA X.K H a xs) (h':bA X.K H a ys):xs=ys:=by
 obtain⟨bF,r,⟨o,n,e,_,_,d⟩,_⟩:=I.list h
 obtain⟨its',r',⟨o',n',e',_,_,d'⟩,_⟩:=I.list h'
 rw[e] at e';cases e'
 rw[d] at d'
 injection d' with d1 _
 have:bF=its':=by simpa using congrArg Array.toList d1
 subst this
 exact r.inj r'
theorem Inv.E4 (I:Inv X pins σ H s) (h:df X.K H a xs) (h':df X.K H a ys):xs=ys:=by
 obtain⟨bF,r,⟨o,e,_,n,d⟩,_⟩:=I.tuple h
 obtain⟨its',r',⟨o',e',_,n',d'⟩,_⟩:=I.tuple h'
 rw[e] at e';cases e'
 rw[d] at d'
 injection d' with d1 _
 have:bF=its':=by simpa using congrArg Array.toList d1
 subst this
 exact r.inj r'
end
abbrev Cx.Cr (X:Cx) (E:Value→Shared→Prop):Cx:={ X with xe:=E }
abbrev Cx.Pn (X:Cx):Cx:=X.Cr fun _ _=>False
theorem Cx.Ok.Cr {X:Cx} (ok:X.Ok) (E:Value→Shared→Prop):(X.Cr E).Ok :=
 ⟨ok.mod,ok.kind,ok.glob,ok.blt,ok.above,ok.inj,ok.has,ok.RL,ok.hd,ok.frames,ok.Sm,ok.Ve,ok.bs,ok.KZ,ok.IP,ok.MP,ok.uV,ok.Oz⟩
theorem Cx.Ok.tM {X:Cx}{E:Value→Shared→Prop} (ok:(X.Cr E).Ok):X.Ok :=
 ⟨ok.mod,ok.kind,ok.glob,ok.blt,ok.above,ok.inj,ok.has,ok.RL,ok.hd,ok.frames,ok.Sm,ok.Ve,ok.bs,ok.KZ,ok.IP,ok.MP,ok.uV,ok.Oz⟩
section
variable {X:Cx}{pins:List (Addr×Obj)}{σ:St}{H:Hp}{s:Shared}{E:Value→Shared→Prop}
theorem Inv.Cr (I:Inv X pins σ H s) (E:Value→Shared→Prop):Inv (X.Cr E) pins σ H s:=⟨I.ok.Cr E,I.os,I.bare,I.base,I.loc,I.cell,I.free,I.uF,I.pin,I.d4,I.len⟩
theorem Inv.tM (I:Inv (X.Cr E) pins σ H s):Inv X pins σ H s:=⟨I.ok.tM,I.os,I.bare,I.base,I.loc,I.cell,I.free,I.uF,I.pin,I.d4,I.len⟩
theorem SP.tM {D:Ends}{f:Flow}{s':Shared} (h:SP (X.Cr E) pins D f s'):SP X pins D f s':=by
 cases f with
 | next=>obtain⟨σ',H',I,q⟩:=h;exact⟨σ',H',I.tM,q⟩
 | brk=>obtain⟨σ',H',I,q⟩:=h;exact⟨σ',H',I.tM,q⟩
 | cont=>obtain⟨σ',H',I,q⟩:=h;exact⟨σ',H',I.tM,q⟩
 | ret u=>obtain⟨v,σ',H',I,r,q⟩:=h;exact⟨v,σ',H',I.tM,r,q⟩
theorem PE.Pn {e:Expr}{t:TE} (h:PE X.Pn e t):PE X e t:=fun pins s σ H Q I hw =>
 wpAny_mono (h pins s σ H Q (I.Cr _) hw) (fun _ _ ⟨v,H',I',r,q⟩=>⟨v,H',I'.tM,r,q⟩) fun _ _ z=>False.elim z
theorem PT.Pn {e:Expr}{t:TT} (h:PT X.Pn e t):PT X e t:=fun pins s σ H Q I hw =>
 wpAny_mono (h pins s σ H Q (I.Cr _) hw) (fun _ _ ⟨H',I',q⟩=>⟨H',I'.tM,q⟩) fun _ _ z=>False.elim z
theorem K0.Pn {st:List Stmt}{t:TS} (h:K0 X.Pn st t):K0 X st t:=fun pins s σ H D I hw =>
 wpAny_mono (h pins s σ H D (I.Cr _) hw) (fun _ _ q=>q.tM) fun _ _ z=>False.elim z
end
section
variable {X:Cx}{st:Stmt}{rest:List Stmt}{t u:TS}{e:Expr}{te:TE}{pos:Pos}
def tNext:TS:=fun D σ H=>D.nx σ H
def tSeq (t u:TS):TS:=fun D σ H=>t { D with nx:=u D } σ H
theorem aV:K0 X [] tNext:=fun _ _ σ H _ I h=>wpAny_execs_nil ⟨σ,H,I,h⟩
theorem ah (h1:PS X st t) (h2:K0 X rest u):K0 X (st::rest) (tSeq t u):=by
 intro pins s σ H D I h
 refine wpAny_execs_cons (gZ (h1 pins s σ H { D with nx:=u D } I h) fun f s1 q=>?_)
 cases f with
 | next =>
  obtain⟨σ',H',I',q⟩:=q
  exact h2 pins s1 σ' H' D I' q
 | ret v=>exact q
 | brk=>exact q
 | cont=>exact q
theorem ai (h1:PS X st t):K0 X [st] t:=by
 intro pins s σ H D I h
 refine wpAny_execs_cons (gZ (h1 pins s σ H D I h) fun f s1 q=>?_)
 cases f with
 | next=>exact wpAny_execs_nil q
 | ret v=>exact q
 | brk=>exact q
 | cont=>exact q
theorem Inv.quiet {pins:List (Addr×Obj)}{σ:St}{H:Hp}{s:Shared} (I:Inv X pins σ H s):interactive X.env=false:=by simp [interactive,I.ok.kind]
def tDrop (te:TE):TS:=fun D σ H=>te σ H fun _ H1=>D.nx σ H1
theorem dk (he:PE X e te) (hs:swapsWith e none pos.line X.env=pure false:=by rfl):PS X (.Expr e pos) (tDrop te):=by
 intro pins s σ H D I h
 exact wpAny_Expr_any (gZ (he pins s σ H _ I h) fun v s1 ⟨x,H1,I1,r1,q1⟩=>⟨σ,H1,I1,q1⟩) I.quiet hs
def tRet (te:TE):TS:=fun D σ H=>te σ H D.rt
theorem aK (he:PE X e te):PS X (.Return (some e) pos) (tRet te):=by
 intro pins s σ H D I h
 exact wpAny_Return_some (gZ (he pins s σ H _ I h) fun v s1 ⟨x,H1,I1,r1,q1⟩=>⟨x,σ,H1,I1,r1,q1⟩)
def tRetN:TS:=fun D _ H=>D.rt .cU H
def tIfS (c:TT) (t u:TS):TS:=fun D σ H=>c σ H fun b H1=>if b=true then t D σ H1 else u D σ H1
theorem cE {c:Expr}{a b:List Stmt}{tc:TT} (hc:PT X c tc) (ha:K0 X a t) (hb:K0 X b u):PS X (.If c a b pos) (tIfS tc t u):=by
 intro pins s σ H D I h
 refine wpAny_If (gZ (hc pins s σ H _ I h) fun d s1 ⟨H1,I1,q1⟩=>?_)
 cases d with
 | true=>exact ha pins s1 σ H1 D I1 q1
 | false=>exact hb pins s1 σ H1 D I1 q1
def tNever:TS:=fun _ _ _=>False
end
abbrev TG:=V→St→Hp→(St→Hp→Prop)→Prop
abbrev Ql:=List V→St→Hp→(St→Hp→Prop)→Prop
def PG (X:Cx) (target:Expr) (t:TG):Prop :=
 ∀ (pins:List (Addr×Obj)) (s:Shared) (σ:St) (H:Hp) (v:V) (u:Value) (Q:St→Hp→Prop),Inv X pins σ H s→RelV v u→t v σ H Q →
  wpAny (model X.prog X.w) X.A (assign target X.env u) (fun _ s'=>∃ σ' H',Inv X pins σ' H' s'∧Q σ' H') X.xe s
def Uy (X:Cx) (ts:List Expr) (t:Ql):Prop :=
 ∀ (pins:List (Addr×Obj)) (s:Shared) (σ:St) (H:Hp) (vs:List V) (us:List Value) (Q:St→Hp→Prop),Inv X pins σ H s→Vals vs us→t vs σ H Q →
  wpAny (model X.prog X.w) X.A (assignInOrder ((assignEach ts X.env).map (·.2)) us) (fun _ s'=>∃ σ' H',Inv X pins σ' H' s'∧Q σ' H') X.xe s
abbrev Qm:=V→V→V→Hp→(Hp→Prop)→Prop
def So (X:Cx) (t:Qm):Prop :=
 ∀ (pins:List (Addr×Obj)) (s:Shared) (σ:St) (H:Hp) (o i v:V) (ov iv u:Value) (Q:Hp→Prop),Inv X pins σ H s→RelV o ov→RelV i iv→RelV v u→t o i v H Q →
  wpAny (model X.prog X.w) X.A (setItem ov iv u) (fun _ s'=>∃ H',Inv X pins σ H' s'∧Q H') X.xe s
abbrev Uz:=V→V→Hp→VK→Prop
def Xh (X:Cx) (op:Operator) (t:Uz):Prop :=
 ∀ (pins:List (Addr×Obj)) (s:Shared) (σ:St) (H:Hp) (x y:V) (v u:Value) (Q:VK),Inv X pins σ H s→RelV x v→RelV y u→t x y H Q →
  wpAny (model X.prog X.w) X.A (inplaceOp op v u) (EP X pins σ Q) X.xe s
section
variable {X:Cx}{pos:Pos}
def gName (i:Nat):TG:=fun v σ H Q=>Q (σ.set i (some v)) H
theorem aZ {i : Nat} {x : Str} (hN : X.N.Nodup) (hi : X.N[i]? = some x) (hx : Loc X.env.scope x) (hf : X.fn x = true ∨ X.env.scope.names.lookup x = some .local := by first | exact .inl rfl | exact .inr rfl | assumption) : PG X (.Name x pos) (gName i) := by
 intro pins s σ H v u Q I r h
 exact wpAny_assign_Name (z5 I hN hi hx r (fun s' I'=>⟨_,H,I',h⟩) hf)
def gNil:Ql:=fun vs σ H Q=>vs=[]∧Q σ H
def gCons (t:TG) (u:Ql):Ql:=fun vs σ H Q=>∃ v r,vs=v::r∧t v σ H fun σ' H'=>u r σ' H' Q
theorem K3:Uy X [] gNil:=by
 intro pins s σ H vs us Q I r h
 obtain⟨e,h⟩:=h
 subst e
 cases r
 exact assignInOrder_nil ⟨σ,H,I,h⟩
theorem Aa {e:Expr}{es:List Expr}{t:TG}{u:Ql} (h1:PG X e t) (h2:Uy X es u)
  (hs:(assignEach (e::es) X.env).map (·.2)=assign e X.env::(assignEach es X.env).map (·.2):=by rfl):Uy X (e::es) (gCons t u):=by
 intro pins s σ H vs us Q I r h
 obtain⟨v,vr,e1,h⟩:=h
 subst e1
 cases r with
 | cons r rr =>
  rw[hs]
  refine assignInOrder_cons (gZ (h1 pins s σ H _ _ _ I r h) fun _ s1 ⟨σ1,H1,I1,q1⟩=>?_)
  exact h2 pins s1 σ1 H1 _ _ Q I1 rr q1
def gTup (K:PySem.W.Frag) (n:Nat) (t:Ql):TG:=fun v σ H Q=>∃ a xs,v=.ref a∧df K H a xs∧xs.length=n∧t xs σ H Q
theorem MU {es:List Expr}{k:Nat}{t:Ql}{n:Nat} (hc:X.calm=true) (h:Uy X es t)
  (hn:(assignEach es X.env).length=n:=by rfl) (Sq:(assignEach es X.env).findIdx? (·.1)=none:=by rfl):PG X (.Tuple es k pos) (gTup X.K n t):=by
 intro pins s σ H v u Q I r hw
 obtain⟨a,xs,e1,hq,hl,hw⟩:=hw
 subst e1
 cases r
 obtain⟨bF,rv,ht,hz⟩:=I.tuple hq
 refine assign_Tuple_tuple (I.ok.hd hc) ht (by simp [hn,←hl,rv.length]) Sq fun h' hx=>?_
 have I1:Inv X pins σ H { s with heap:=h' }:=I.kept (t':=s.toks) fun b o e=>hx b o (Nat.ne_of_lt (Heap.lt_size e)) e
 exact h pins _ σ H xs _ Q I1 (by simpa using rv) hw
def gSub (to ti:TE) (t:Qm):TG:=fun v σ H Q=>to σ H fun o H1=>ti σ H1 fun i H2=>t o i v H2 fun H3=>Q σ H3
theorem MV {o i:Expr}{to ti:TE}{t:Qm} (ho:PE X o to) (hi:PE X i ti) (hs:So X t)
  (ha:∀ v,assign (.Subscript o i pos) X.env v=(do
   let ov ←holding [v] (eval o X.env)
   let iv ←holding [v,ov] (eval i X.env)
   standAt pos
   holding [v,ov,iv] (setItem ov iv v)
   release [v,ov,iv] []):=by intro _;rfl):PG X (.Subscript o i pos) (gSub to ti t):=by
 intro pins s σ H v u Q I r h
 rw[ha]
 refine wpAny_bind (wpAny_holding (gZ (ho pins s σ H _ I h) fun ov s1 ⟨x,H1,I1,r1,q1⟩=>?_))
 refine wpAny_bind (wpAny_holding (gZ (hi pins s1 σ H1 _ I1 q1) fun iv s2 ⟨y,H2,I2,r2,q2⟩=>?_))
 refine wpAny_bind (wpAny_standAt (wpAny_bind (wpAny_holding (gZ (hs pins s2 σ H2 x y v ov iv u _ I2 r1 r2 r q2) fun _ s3 ⟨H3,I3,q3⟩=>?_))))
 exact wpAny_release ⟨σ,H3,I3,q3⟩
def tAsg (te:TE) (g:TG):TS:=fun D σ H=>te σ H fun x H1=>g x σ H1 D.nx
theorem MW {tg e:Expr}{te:TE}{g:TG} (he:PE X e te) (hg:PG X tg g) (hs:swapsWithSole [tg] e pos.line X.env=pure false:=by rfl) (hw:swappedStores [tg] e X.env=pure none:=by rfl)
  (h1:(assignEach [tg] X.env).map (·.2)=[assign tg X.env]:=by rfl):PS X (.Assign [tg] e pos) (tAsg te g):=by
 intro pins s σ H D I h
 refine wpAny_Assign_stores (gZ (he pins s σ H _ I h) fun v s1 ⟨x,H1,I1,r1,q1⟩=>?_) hs hw
 rw[h1]
 exact gZ (hg pins s1 σ H1 x v _ I1 r1 q1) fun _ s2 q=>q
theorem aP {i : Nat} {x : Str} {e : Expr} {te : TE} {pos' : Pos} (hN : X.N.Nodup) (hi : X.N[i]? = some x) (hx : Loc X.env.scope x) (he : PE X e te) (hs : swapsWith e (some (.Name x pos')) pos.line X.env = pure false := by rfl) (hf : X.fn x = true ∨ X.env.scope.names.lookup x = some .local := by first | exact .inl rfl | exact .inr rfl | assumption) :
  PS X (.Assign [.Name x pos'] e pos) (tAsg te (gName i)):=by
 intro pins s σ H D I h
 refine wpAny_Assign_Name (gZ (he pins s σ H _ I h) fun v s1 ⟨y,H1,I1,r1,q1⟩=>?_) hs
 exact z5 I1 hN hi hx r1 (fun s2 I2=>⟨_,H1,I2,q1⟩) hf
def tAug (i:Nat) (te:TE) (ti:Uz):TS:=fun D σ H=>∃ x,σ[i]? = some (some x)∧te σ H fun y H1=>ti x y H1 fun z H2=>D.nx (σ.set i (some z)) H2
theorem Qn {i : Nat} {x : Str} {e : Expr} {te : TE} {op : Operator} {ti : Uz} {pos' : Pos} (hN : X.N.Nodup) (hi : X.N[i]? = some x) (hx : Loc X.env.scope x) (he : PE X e te) (ho : Xh X op ti) (hf : X.fn x = true ∨ X.env.scope.names.lookup x = some .local := by first | exact .inl rfl | exact .inr rfl | assumption) :
  PS X (.AugAssign (.Name x pos') op e pos) (tAug i te ti):=by
 intro pins s σ H D I h
 obtain⟨v,e1,h⟩:=h
 obtain⟨m,hn,hl⟩:=I.loc
 have Yv:Uv X.env.scope x:=by rcases hx with k | k;exact .inl k;exact .inr (.inl k)
 obtain⟨u,r,l⟩:=hl i x v hi e1 Yv
 refine wpAny_AugAssign_Name ?_
 have go:wpAny (model X.prog X.w) X.A (eval e X.env) (fun w s₂=>wpAny (model X.prog X.w) X.A (inplaceOp op u w) (fun r s₃=>wpAny (model X.prog X.w) X.A (storeName X.env x r) (fun _=>SP X pins D .next) X.xe s₃) X.xe s₂) X.xe s:=by
  refine gZ (he pins s σ H _ I h) fun w s1 ⟨y,H1,I1,r1,q1⟩=>?_
  refine gZ (ho pins s1 σ H1 v y u w _ I1 r r1 q1) fun z s2 ⟨zv,H2,I2,r2,q2⟩=>?_
  exact z5 I2 hN hi hx r2 (fun s3 I3=>⟨_,H2,I3,q2⟩) hf
 rcases l with ⟨hk,hm⟩ | ⟨hk,c,hc,BQ⟩
 ·exact wpAny_loadName_local I.ok.kind hk hn hm go
 ·rcases hk with hk | hk
  ·exact wpAny_loadName_cell I.ok.kind hk hc BQ go
  ·rcases hx with k | k
   ·have:X.env.scope.names.lookup x=some .free:=hk
    rw[k] at this;cases this
   ·have:X.env.scope.names.lookup x=some .free:=hk
    rw[k] at this;cases this
def ipI (f:Int→Int→Int):Uz:=fun x y H Q=>∃ i j,x=.int i∧y=.int j∧Q (.int (f i j)) H
theorem Qo:Xh X .Add (ipI fun i j=>i+j):=by
 intro pins s σ H x y v u Q I r1 r2 h
 obtain⟨i,j,e1,e2,q⟩:=h
 subst e1;subst e2
 obtain⟨t,rfl⟩:=r1
 obtain⟨t',rfl⟩:=r2
 exact iadd_int ⟨.int _,H,I.tok _,⟨_,rfl⟩,q⟩
end
section
variable {X:Cx}{pos:Pos}
def Qp (c:TT) (tb:TS):TS:=fun D σ H=>∃ W:Nat→St→Hp→Prop,(∃ m,W m σ H)∧∀ m σ H,W m σ H →
 c σ H fun b H1=>if b=true then ∃ N:St→Hp→Prop,(∀ σ' H',N σ' H'→∃ m',m'<m∧W m' σ' H')∧tb { D with nx:=N,ct:=N,bk:=D.nx } σ H1 else D.nx σ H1
theorem CZ {c:Expr}{body:List Stmt}{tc:TT}{tb:TS} (hp:PassesOwn (model X.prog X.w) X.A X.env X.xe) (hc:PT X c tc) (hb:K0 X body tb):PS X (.While c body [] pos) (Qp tc tb):=by
 intro pins s σ H D I h
 obtain⟨W,⟨m0,w0⟩,turn⟩:=h
 refine wpAny_While (codeAny_whileLoop (fun n s'=>∃ σ' H',Inv X pins σ' H' s'∧W n σ' H') ?_ m0 ⟨σ,H,I,w0⟩)
 rintro n s1 ⟨σ1,H1,I1,w1⟩
 refine wpAny_passesOwn hp (gZ (hc pins s1 σ1 H1 _ I1 (turn n σ1 H1 w1)) fun b s2 ⟨H2,I2,q2⟩=>?_)
 cases b with
 | true =>
  obtain⟨N,hN,q2⟩:=q2
  rw[if_pos rfl]
  refine wpAny_passesOwn hp (gZ (hb pins s2 σ1 H2 _ I2 q2) fun f s3 q3=>?_)
  cases f with
  | next =>
   obtain⟨σ3,H3,I3,n3⟩:=q3
   obtain⟨m',hm,w3⟩:=hN σ3 H3 n3
   exact⟨m',hm,σ3,H3,I3,w3⟩
  | cont =>
   obtain⟨σ3,H3,I3,n3⟩:=q3
   obtain⟨m',hm,w3⟩:=hN σ3 H3 n3
   exact⟨m',hm,σ3,H3,I3,w3⟩
  | brk=>exact q3
  | ret v=>exact q3
 | false =>
  rw[if_neg Bool.false_ne_true]
  exact wpAny_execs_nil ⟨σ1,H2,I2,q2⟩
end
structure It where
 go:Nat→Hp→Prop
 IH:Nat→Hp→V→Hp→Prop
 stop:Nat→Hp→Prop
def Ab (X:Cx) (pins:List (Addr×Obj)) (H:Hp) (b:Addr):Prop :=
 H b=none∧b≠X.env.locals∧b∉X.fs∧(b∈X.ex∨X.s₀.heap.objs.size≤b)∧(∀ x c,X.env.cells.lookup x=some c→c≠b)∧∀ p∈X.pn++pins,p.1≠b
theorem Inv.IQ {X:Cx}{pins:List (Addr×Obj)}{σ:St}{H H':Hp}{s:Shared}{b:Addr} (I:Inv X pins σ H s) (hb:s.heap.objs.size≤b) (hn:H' b=none):Ab X pins H' b:=by
 refine⟨hn,Nat.ne_of_gt (Nat.lt_of_lt_of_le I.lt hb),I.Vg hb,.inr (Nat.le_trans I.sz hb),fun x c e z=>?_,fun p hp z=>?_⟩
 ·obtain⟨v,q⟩:=I.cell x c e
  exact absurd (Nat.lt_of_lt_of_le q.lt (by rw[z];exact hb)) (Nat.lt_irrefl _)
 ·exact absurd (Nat.lt_of_lt_of_le (Heap.lt_size (I.pin p hp).1) (by rw[z];exact hb)) (Nat.lt_irrefl _)
structure Turn (P:Program) (w:World) (K:PySem.W.Frag) (tg:Expr) (J:It) (fp:List Addr) (it:Addr) (tn:Nat→Heap→Prop):Prop where
 mem:it∈fp
 obj:∀ i h,tn i h→∀ b∈fp,∃ o,h.get? b=some o∧∀ v,o.data≠.cell v
 keep:∀ i h h',tn i h→(∀ b∈fp,∀ o,h.get? b=some o→h'.get? b=some o)→tn i h'
 item:∀ (X:Cx),X.prog=P→X.w=w→X.K=K→X.calm=true→∀ (i:Nat) (pins:List (Addr×Obj)) (s:Shared) (σ:St) (H:Hp) (E:Value→Shared→Prop),Inv X pins σ H s→(∀ b∈fp,Ab X pins H b)→tn i s.heap→J.go i H →
  wpAny (model P w) X.A (pyNext (.ref it)) (fun r s1=>∃ u,r=some u ∧
   wpAny (model P w) X.A (letOwnedTupleGo tg (.ref it) u) (fun _ s2=>∃ x H',Inv X pins σ H' s2∧RelV x u∧J.IH i H x H'∧tn (i+1) s2.heap∧∀ b∈fp,H' b=none) E s1) E s
 done:∀ (X:Cx),X.prog=P→X.w=w→X.K=K→X.calm=true→∀ (i:Nat) (pins:List (Addr×Obj)) (s:Shared) (σ:St) (H:Hp) (E:Value→Shared→Prop),Inv X pins σ H s→(∀ b∈fp,Ab X pins H b)→tn i s.heap→J.stop i H →
  wpAny (model P w) X.A (pyNext (.ref it)) (fun r s1=>r=none∧Inv X pins σ H s1) E s
 self:∀ (A:Around) (i:Nat) (s:Shared) (Q:Value→Shared→Prop) (E:Value→Shared→Prop),tn i s.heap→Q (.ref it) s→wpAny (model P w) A (pyIter (.ref it)) Q E s
abbrev TI:=St→Hp→(It→Hp→Prop)→Prop
def Xi (X:Cx) (pins:List (Addr×Obj)) (σ:St) (tg:Expr) (R:It→Hp→Prop) (Sr:Value) (s2:Shared):Prop :=
 ∃ (it:Addr) (fp:List Addr) (tn:Nat→Heap→Prop) (J:It) (H':Hp),Sr=.ref it∧Inv X pins σ H' s2∧Turn X.prog X.w X.K tg J fp it tn∧tn 0 s2.heap∧(∀ b∈fp,Ab X pins H' b)∧R J H'
def PI (X:Cx) (tg iter:Expr) (wi:TI):Prop :=
 ∀ (pins:List (Addr×Obj)) (s:Shared) (σ:St) (H:Hp) (R:It→Hp→Prop),Inv X pins σ H s→wi σ H R →
  wpAny (model X.prog X.w) X.A (eval iter X.env) (fun v s1=>wpAny (model X.prog X.w) X.A (pyIter v) (Xi X pins σ tg R) X.xe s1) X.xe s
theorem K4 {M:Model}{A:Around}{E:Value→Shared→Prop}{s:Shared}{tg:Expr}{it:Addr}{u:Value}{o:Obj}{n:String}{vs:Array Value}{Q:Unit→Shared→Prop} (ho:s.heap.get? it=some o) (hc:o.cls=.type n) (hd:o.data=.fields vs)
  (hn:["enumerate","zip","dict_itemiterator","dict_reverseitemiterator","odict_iterator","itertools.zip_longest","itertools.pairwise"].contains n=false) (hQ:Q () s):wpAny M A (letOwnedTupleGo tg (.ref it) u) Q E s:=by
 unfold letOwnedTupleGo
 cases tg<;>first
  | exact wpAny_pure hQ
  | (cases u<;>first
    | exact wpAny_pure hQ
    | (refine wpAny_bind (wpAny_load ho ?_)
       rw[hc,hd]
       show wpAny M A (if (["enumerate","zip","dict_itemiterator","dict_reverseitemiterator","odict_iterator","itertools.zip_longest","itertools.pairwise"].contains n&&vs[0]? == some (rawInt _))=true then _ else _) Q E s
       rw[if_neg (by intro h;rw[hn,Bool.false_and] at h;cases h)]
       exact wpAny_pure hQ))
def G7 (K:PySem.W.Frag) (a:Addr):It :=
 ⟨fun i H=>∃ xs x,bA K H a xs∧xs[i]? = some x,fun i H x H'=>H'=H∧∀ xs,bA K H a xs→xs[i]? = some x,fun i H=>∃ xs,bA K H a xs∧xs.length≤i⟩
def MX (K:PySem.W.Frag) (a:Addr):It :=
 ⟨fun i H=>∃ xs x,df K H a xs∧xs[i]? = some x,fun i H x H'=>H'=H∧∀ xs,df K H a xs→xs[i]? = some x,fun i H=>∃ xs,df K H a xs∧xs.length≤i⟩
def Fz (lo:Int) (n:Nat):It:=⟨fun i _=>i<n,fun i H x H'=>H'=H∧x=.int (lo+i),fun i _=>n≤i⟩
theorem LM {P:Program}{w:World}{K:PySem.W.Frag}{tg:Expr} (a it:Addr):Turn P w K tg (G7 K a) [it] it (fun i h=>h.IsListIter it a i) where
 mem:=by simp
 obj:=fun i h st b hb=>by
  have e:b=it:=by simpa using hb
  subst e
  obtain⟨o,e,c,d⟩:=st
  exact⟨o,e,fun v z=>by rw[d] at z;cases z⟩
 keep:=fun i h h' st k=>st.at fun o e=>k it (by simp) o e
 item:=by
  intro X hP hw hK hc i pins s σ H E I hf st hg
  subst hP hw hK
  obtain⟨xs,x,hq,hx⟩:=hg
  obtain⟨bF,rv,p,hz⟩:=I.list hq
  obtain⟨u,hu,ru⟩:=rv.get hx
  obtain⟨f0,f1,f2,f3,f4,f5⟩:=hf it (by simp)
  refine wpAny_pyNext_list_item st p.isList (x:=u) (by simpa using hu) fun h' G8 sb=>?_
  have I1:Inv X pins σ H { s with heap:=h' }:=I.turned (t':=s.toks) (fun b o hb e=>(sb.2 b hb).trans e) f0 f1 f3 f4 f5
  obtain⟨o,e,c,d⟩:=id G8
  exact⟨u,rfl,K4 (s:={ s with heap:=h' }) e c d (by decide) ⟨x,H,I1,ru,⟨rfl,fun ys hy=>by rw[I.MT hy hq];exact hx⟩,G8,fun b hb=>(hf b hb).1⟩⟩
 done:=by
  intro X hP hw hK hc i pins s σ H E I hf st hg
  subst hP hw hK
  obtain⟨xs,hq,hx⟩:=hg
  obtain⟨bF,rv,p,hz⟩:=I.list hq
  obtain⟨f0,f1,f2,f3,f4,f5⟩:=hf it (by simp)
  have hl:=rv.length
  exact wpAny_pyNext_list_end (I.ok.hd hc) st p.isList (by simp;omega) fun h' eb=>⟨rfl,I.turned (t':=s.toks) (fun b o hb e=>eb b o hb e) f0 f1 f3 f4 f5⟩
 self:=fun _ _ _ _ _ st h=>wpAny_pyIter_listiter st h
theorem IS {P:Program}{w:World}{K:PySem.W.Frag}{tg:Expr} (a it:Addr):Turn P w K tg (MX K a) [it] it (fun i h=>h.IsTupleIter it a i) where
 mem:=by simp
 obj:=fun i h st b hb=>by
  have e:b=it:=by simpa using hb
  subst e
  obtain⟨o,e,c,d⟩:=st
  exact⟨o,e,fun v z=>by rw[d] at z;cases z⟩
 keep:=fun i h h' st k=>st.at fun o e=>k it (by simp) o e
 item:=by
  intro X hP hw hK hc i pins s σ H E I hf st hg
  subst hP hw hK
  obtain⟨xs,x,hq,hx⟩:=hg
  obtain⟨bF,rv,p,hz⟩:=I.tuple hq
  obtain⟨u,hu,ru⟩:=rv.get hx
  obtain⟨f0,f1,f2,f3,f4,f5⟩:=hf it (by simp)
  refine wpAny_pyNext_tuple_item st (show s.heap.IsTuple a bF.toArray from p) (x:=u) (by simpa using hu) fun h' G8 sb=>?_
  have I1:Inv X pins σ H { s with heap:=h' }:=I.turned (t':=s.toks) (fun b o hb e=>(sb.2 b hb).trans e) f0 f1 f3 f4 f5
  obtain⟨o,e,c,d⟩:=id G8
  exact⟨u,rfl,K4 (s:={ s with heap:=h' }) e c d (by decide) ⟨x,H,I1,ru,⟨rfl,fun ys hy=>by rw[I.E4 hy hq];exact hx⟩,G8,fun b hb=>(hf b hb).1⟩⟩
 done:=by
  intro X hP hw hK hc i pins s σ H E I hf st hg
  subst hP hw hK
  obtain⟨xs,hq,hx⟩:=hg
  obtain⟨bF,rv,p,hz⟩:=I.tuple hq
  obtain⟨f0,f1,f2,f3,f4,f5⟩:=hf it (by simp)
  have hl:=rv.length
  exact wpAny_pyNext_tuple_end (I.ok.hd hc) st (show s.heap.IsTuple a bF.toArray from p) (by simp;omega) fun h' eb=>⟨rfl,I.turned (t':=s.toks) (fun b o hb e=>eb b o hb e) f0 f1 f3 f4 f5⟩
 self:=fun _ _ _ _ _ st h=>wpAny_pyIter_tupleiter st h
theorem IT {P:Program}{w:World}{K:PySem.W.Frag}{tg:Expr} (it:Addr) (lo:Int) (n:Nat):Turn P w K tg (Fz lo n) [it] it (fun i h=>IsRangeIter h it (lo+(i:Nat)*1) ((n:Int)-(i:Nat)) 1) where
 mem:=by simp
 obj:=fun i h st b hb=>by
  have e:b=it:=by simpa using hb
  subst e
  exact⟨_,st,fun v z=>by
   have z':Data.fields _=Data.cell v:=z
   cases z'⟩
 keep:=fun i h h' st k=>k it (by simp) _ st
 item:=by
  intro X hP hw hK hc i pins s σ H E I hf st hg
  subst hP hw hK
  obtain⟨f0,f1,f2,f3,f4,f5⟩:=hf it (by simp)
  have W:=Walks.range (prog:=X.prog) (w:=X.w) (I.ok.hd hc) it lo 1 n
  refine W.item i s _ _ hg st fun v h' tk hv G8 kk=>?_
  obtain⟨t,rfl⟩:=hv
  have I1:Inv X pins σ H { s with heap:=h',toks:=tk }:=I.turned (fun b o hb e=>kk b o (by simpa using hb) e) f0 f1 f3 f4 f5
  refine⟨_,rfl,K4 (s:={ s with heap:=h',toks:=tk }) (n := "range_iterator") G8 rfl rfl (by decide) ⟨.int (lo+i),H,I1,⟨t,?_⟩,⟨rfl,rfl⟩,G8,fun b hb=>(hf b hb).1⟩⟩
  rw[Int.mul_one]
 done:=by
  intro X hP hw hK hc i pins s σ H E I hf st hg
  subst hP hw hK
  obtain⟨f0,f1,f2,f3,f4,f5⟩:=hf it (by simp)
  exact wpAny_pyNext_range_end (I.ok.hd hc) st (by have:n≤i:=hg;omega) fun h' eb=>⟨rfl,I.turned (t':=s.toks) (fun b o hb e=>eb b o hb e) f0 f1 f3 f4 f5⟩
 self:=fun _ _ _ _ _ st h=>wpAny_pyIter_rangeiter st h
end L2
namespace L2
open PySem PySem.Spec PyProof.Rows
section
variable {X:Cx}{tg:Expr}
def iList (K:PySem.W.Frag) (tl:TE):TI:=fun σ H R=>tl σ H fun x H1=>∃ a,x=.ref a∧(∃ xs,bA K H1 a xs)∧R (G7 K a) H1
def iTup (K:PySem.W.Frag) (tl:TE):TI:=fun σ H R=>tl σ H fun x H1=>∃ a,x=.ref a∧(∃ xs,df K H1 a xs)∧R (MX K a) H1
theorem dU {l:Expr}{tl:TE} (hl:PE X l tl):PI X tg l (iList X.K tl):=by
 intro pins s σ H R I h
 refine gZ (hl pins s σ H _ I h) fun v s1 ⟨x,H1,I1,r1,q1⟩=>?_
 obtain⟨a,e,⟨xs,hq⟩,q⟩:=q1
 subst e
 cases r1
 obtain⟨bF,rv,p,hz⟩:=I1.list hq
 refine wpAny_pyIter_list p.isList ?_
 refine⟨s1.heap.objs.size,[s1.heap.objs.size],_,_,H1,rfl,I1.kept (t':=s1.toks) fun b o e=>Heap.get?_push_of_some _ e,LM a _,⟨_,Heap.get?_push_size _ rfl,rfl,rfl⟩,fun b hb=>?_,q⟩
 have e:b=s1.heap.objs.size:=by simpa using hb
 subst e
 exact I1.IQ (Nat.le_refl _) (I1.d4.fresh (Nat.le_refl _))
theorem wH {l:Expr}{tl:TE} (hl:PE X l tl):PI X tg l (iTup X.K tl):=by
 intro pins s σ H R I h
 refine gZ (hl pins s σ H _ I h) fun v s1 ⟨x,H1,I1,r1,q1⟩=>?_
 obtain⟨a,e,⟨xs,hq⟩,q⟩:=q1
 subst e
 cases r1
 obtain⟨bF,rv,p,hz⟩:=I1.tuple hq
 refine wpAny_pyIter_tuple (show s1.heap.IsTuple a bF.toArray from p) ?_
 refine⟨s1.heap.objs.size,[s1.heap.objs.size],_,_,H1,rfl,I1.kept (t':=s1.toks) fun b o e=>Heap.get?_push_of_some _ e,IS a _,⟨_,Heap.get?_push_size _ rfl,rfl,rfl⟩,fun b hb=>?_,q⟩
 have e:b=s1.heap.objs.size:=by simpa using hb
 subst e
 exact I1.IQ (Nat.le_refl _) (I1.d4.fresh (Nat.le_refl _))
theorem G9 {pins:List (Addr×Obj)}{σ:St}{H:Hp}{s:Shared}{R:It→Hp→Prop}{E:Value→Shared→Prop}{lo hi:Int}{t u v:Tok}{tk:Nat} (I:Inv X pins σ H s) (h1 : -(2 ^ 62)≤lo) (h2:lo<2 ^ 62) (h3 : -(2 ^ 62)≤hi) (h4:hi<2 ^ 62)
  (q:R (Fz lo (hi-lo).toNat) H):wpAny (model X.prog X.w) X.A (pyIter (.ref s.heap.objs.size)) (Xi X pins σ tg R) E { s with heap:=s.heap.push { cls:=.type "range",data:=.fields #[.int lo t,.int hi u,.int 1 v] },toks:=tk }:=by
 refine wpAny_pyIter_range (IsRange.new ..) (small_one h1 h2 h3 h4) ?_
 have I1:Inv X pins σ H { s with heap:=s.heap.push { cls:=.type "range",data:=.fields #[.int lo t,.int hi u,.int 1 v] },toks:=tk }:=I.kept fun b o e=>Heap.get?_push_of_some _ e
 refine⟨(s.heap.push { cls:=.type "range",data:=.fields #[.int lo t,.int hi u,.int 1 v] }).objs.size,[(s.heap.push { cls:=.type "range",data:=.fields #[.int lo t,.int hi u,.int 1 v] }).objs.size],_,_,H,rfl,
  I1.kept (t':=tk) fun b o e=>Heap.get?_push_of_some _ e,IT _ lo (hi-lo).toNat,?_,fun b hb=>?_,q⟩
 ·have e1:lo+((0:Nat):Int)*1=lo:=by simp
  have e2:(((hi-lo).toNat:Nat):Int)-((0:Nat):Int)=Builtin.Range.rangeSize lo hi 1:=by rw[rangeSize_one];split<;>omega
  show IsRangeIter _ _ (lo+((0:Nat):Int)*1) ((((hi-lo).toNat:Nat):Int)-((0:Nat):Int)) 1
  rw[e1,e2]
  exact Heap.get?_push_size _ rfl
 ·have e:b=(s.heap.push { cls:=.type "range",data:=.fields #[.int lo t,.int hi u,.int 1 v] }).objs.size:=by simpa using hb
  subst e
  exact I1.IQ (Nat.le_refl _) (I1.d4.fresh (Nat.le_refl _))
def iRng1 (ta:TA):TI:=fun σ H R=>ta σ H fun vs H1=>∃ j:Int,vs=[.int j] ∧ -(2 ^ 62)≤j∧j<2 ^ 62∧R (Fz 0 j.toNat) H1
def iRng2 (ta:TA):TI:=fun σ H R=>ta σ H fun vs H1=>∃ i j:Int,vs=[.int i,.int j]∧(-(2 ^ 62)≤i∧i<2 ^ 62 ∧ -(2 ^ 62)≤j∧j<2 ^ 62)∧R (Fz i (j-i).toNat) H1
theorem jV {a:Expr}{ta:TA}{p pos:Pos} (hg:Gl X "range") (hm:X.mg "range" = none) (ha:PA X [a] ta) (hs:starEach [a] X.env=[(false,eval a X.env)]:=by rfl):PI X tg (.Call (.Name "range" p) [a] [] pos) (iRng1 ta):=by
 intro pins s σ H R I h
 refine Call_ (y1 I hg hm boot_range (PyProof.Rows.callWith_type1 (gZ (ha pos pins s σ H _ I h) fun us s1 ⟨vs,H1,I1,r1,q1⟩=>?_) hs rfl))
 obtain⟨j,e,q1,q2,q⟩:=q1
 subst e
 cases r1 with
 | cons r rr =>
  cases rr
  obtain⟨t,rfl⟩:=r
  exact call_range_1 (G9 I1 (by omega) (by omega) q1 q2 (by simpa using q))
theorem E5 {a b:Expr}{ta:TA}{p pos:Pos} (hg:Gl X "range") (hm:X.mg "range" = none) (ha:PA X [a,b] ta) (hs:starEach [a,b] X.env=[(false,eval a X.env),(false,eval b X.env)]:=by rfl) (Po:starEach [b] X.env=[(false,eval b X.env)]:=by rfl) :
  PI X tg (.Call (.Name "range" p) [a,b] [] pos) (iRng2 ta):=by
 intro pins s σ H R I h
 refine Call_ (y1 I hg hm boot_range (PyProof.Rows.callWith_type1 (gZ (ha pos pins s σ H _ I h) fun us s1 ⟨vs,H1,I1,r1,q1⟩=>?_) (by rw[hs,Po]) (by rw[Po];rfl)))
 obtain⟨i,j,e,⟨q1,q2,q3,q4⟩,q⟩:=q1
 subst e
 cases r1 with
 | cons r rr =>
  cases rr with
  | cons r' rr =>
   cases rr
   obtain⟨t,rfl⟩:=r
   obtain⟨t',rfl⟩:=r'
   exact call_range_2 (G9 I1 q1 q2 q3 q4 q)
def tN (wi:TI) (g:TG) (tb:TS):TS:=fun D σ H=>wi σ H fun J H1=>∃ W:Nat→Nat→St→Hp→Prop,(∃ m,W 0 m σ H1)∧∀ i m σ H,W i m σ H →
 (J.stop i H∧D.nx σ H)∨(J.go i H∧∃ N:St→Hp→Prop,(∀ σ' H',N σ' H'→∃ m',m'<m∧W (i+1) m' σ' H')∧∀ x H',J.IH i H x H'→g x σ H' fun σ2 H2=>tb { D with nx:=N,ct:=N,bk:=D.nx } σ2 H2)
def wI (fp:List Addr) (h:Heap):List (Addr×Obj):=fp.filterMap fun b=>(h.get? b).map fun o=>(b,o)
theorem oQ {fp:List Addr}{h:Heap}{b:Addr}{o:Obj} (hb:b∈fp) (e:h.get? b=some o):(b,o)∈wI fp h:=List.mem_filterMap.mpr ⟨b,hb,by rw[e];rfl⟩
theorem LN {fp:List Addr}{h:Heap}{p:Addr×Obj} (hp:p∈wI fp h):p.1∈fp∧h.get? p.1=some p.2:=by
 obtain⟨b,hb,e⟩:=List.mem_filterMap.mp hp
 cases q:h.get? b with
 | none=>rw[q] at e;cases e
 | some o =>
  rw[q] at e
  have e':(b,o)=p:=Option.some.inj e
  subst e'
  exact⟨hb,q⟩
theorem Inv.pinned {pins:List (Addr×Obj)}{σ:St}{H:Hp}{s:Shared}{fp:List Addr} (I:Inv X pins σ H s) (hf:∀ b∈fp,Ab X pins H b) (ho:∀ b∈fp,∃ o,s.heap.get? b=some o∧∀ v,o.data≠.cell v):Inv X (pins++wI fp s.heap) σ H s :=
 I.qK fun p hp=>(List.mem_append.mp hp).elim (fun z=>I.pin p (List.mem_append_right _ z)) fun z=>by
  obtain⟨hb,e⟩:=LN z
  obtain⟨f0,f1,f2,_⟩:=hf p.1 hb
  obtain⟨o,e',d⟩:=ho p.1 hb
  rw[e] at e';cases e'
  exact⟨e,f0,f1,f2,d⟩
theorem Inv.Ac {pins pl:List (Addr×Obj)}{σ:St}{H:Hp}{s:Shared} (I:Inv X (pins++pl) σ H s):Inv X pins σ H s:=I.qK fun p hp=>I.pin p (List.mem_append_right _ (List.mem_append_left _ hp))
theorem fZ {iter:Expr}{body:List Stmt}{wi:TI}{g:TG}{tb:TS}{pos:Pos} (hp:PassesOwn (model X.prog X.w) X.A X.env X.xe) (hc:X.calm=true) (hi:PI X tg iter wi) (hg:PG X tg g) (hb:K0 X body tb)
  (hs:∀ x,foldedSetIterable iter X.env x=pure x:=by intro _;rfl):PS X (.For tg iter body [] pos) (tN wi g tb):=by
 intro pins s σ H D I h
 refine wpAny_For (gZ (hi pins s σ H _ I h) fun v s1 h1=>gZ h1 fun Sr s2 h2=>?_) hs
 obtain⟨it,fp,tn,J,H2,e,I2,T,IU,f2,W,⟨m0,w0⟩,turn⟩:=h2
 subst e
 have Qq:∀ {H':Hp},(∀ b∈fp,H' b=none)→∀ b∈fp,Ab X pins H' b:=fun hn b hb=>⟨hn b hb,(f2 b hb).2⟩
 refine codeAny_forLoop_any (fun n s'=>∃ i σ' H',Inv X pins σ' H' s'∧tn i s'.heap∧(∀ b∈fp,H' b=none)∧W i n σ' H') ?_ m0 ⟨0,σ,H2,I2,IU,fun b hb=>(f2 b hb).1,w0⟩
 rintro n s3 ⟨i,σ3,H3,I3,Xj,Xk,w3⟩
 rcases turn i n σ3 H3 w3 with ⟨stop,qn⟩ | ⟨go,N,hN,step⟩
 ·refine wpAny_passesOwn hp (gZ (T.done X rfl rfl rfl hc i pins s3 σ3 H3 X.xe I3 (Qq Xk) Xj stop) fun r s4 ⟨hr,I4⟩=>?_)
  subst hr
  exact wpAny_execs_nil ⟨σ3,H3,I4,qn⟩
 ·refine wpAny_passesOwn hp (gZ (T.item X rfl rfl rfl hc i pins s3 σ3 H3 X.xe I3 (Qq Xk) Xj go) fun r s4 ⟨u,hr,h4⟩=>?_)
  subst hr
  refine wpAny_passesOwn hp (gZ h4 fun _ s5 ⟨x,H5,I5,r5,y5,MY,Ss⟩=>?_)
  have Sv:=I5.pinned (Qq Ss) (T.obj _ _ MY)
  refine wpAny_passesOwn hp (gZ (hg _ s5 σ3 H5 x u _ Sv r5 (step x H5 y5)) fun _ s6 ⟨σ6,H6,I6,q6⟩=>?_)
  refine wpAny_passesOwn hp (gZ (hb _ s6 σ6 H6 _ I6 q6) fun f s7 q7=>?_)
  have again:∀ {σ7:St}{H7:Hp},Inv X (pins++wI fp s5.heap) σ7 H7 s7→N σ7 H7→∃ m,m<n∧∃ i σ' H',Inv X pins σ' H' s7∧tn i s7.heap∧(∀ b∈fp,H' b=none)∧W i m σ' H':=fun {σ7 H7} I7 n7=>by
   obtain⟨m',hm,w7⟩:=hN σ7 H7 n7
   refine⟨m',hm,i+1,σ7,H7,I7.Ac,T.keep _ _ _ MY fun b hb o e=>(I7.pin (b,o) (List.mem_append_right _ (List.mem_append_right _ (oQ hb e)))).1,fun b hb=>?_,w7⟩
   obtain⟨o,e,d⟩:=T.obj _ _ MY b hb
   exact (I7.pin (b,o) (List.mem_append_right _ (List.mem_append_right _ (oQ hb e)))).2.1
  cases f with
  | next=>obtain⟨σ7,H7,I7,n7⟩:=q7;exact again I7 n7
  | cont=>obtain⟨σ7,H7,I7,n7⟩:=q7;exact again I7 n7
  | brk=>obtain⟨σ7,H7,I7,q7⟩:=q7;exact⟨σ7,H7,I7.Ac,q7⟩
  | ret v=>obtain⟨x7,σ7,H7,I7,r7,q7⟩:=q7;exact⟨x7,σ7,H7,I7.Ac,r7,q7⟩
end
theorem jQ {K:PySem.W.Frag}{a:Addr}{xs:List V}{g:TG}{tb:TS}{D:Ends}{σ:St}{H:Hp} (Pv:Nat→St→Hp→Prop) (h0:Pv 0 σ H) (hl:∀ i σ H,i≤xs.length→Pv i σ H→bA K H a xs)
  (hs:∀ i x σ H,xs[i]? = some x→Pv i σ H→g x σ H fun σ2 H2=>tb { D with nx:=Pv (i+1),ct:=Pv (i+1),bk:=D.nx } σ2 H2) (hd:∀ σ H,Pv xs.length σ H→D.nx σ H) :
  ∃ W:Nat→Nat→St→Hp→Prop,(∃ m,W 0 m σ H)∧∀ i m σ H,W i m σ H →
   ((G7 K a).stop i H∧D.nx σ H)∨((G7 K a).go i H∧∃ N:St→Hp→Prop,(∀ σ' H',N σ' H'→∃ m',m'<m∧W (i+1) m' σ' H')∧∀ x H',(G7 K a).IH i H x H'→g x σ H' fun σ2 H2=>tb { D with nx:=N,ct:=N,bk:=D.nx } σ2 H2):=by
 refine⟨fun i m σ H=>m=xs.length-i∧i≤xs.length∧Pv i σ H,⟨xs.length,by simp,Nat.zero_le _,h0⟩,?_⟩
 rintro i m σ H ⟨rfl,hi,p⟩
 have q:=hl i σ H hi p
 by_cases qt:i<xs.length
 ·refine .inr ⟨⟨xs,xs[i],q,by simp [qt]⟩,Pv (i+1),fun σ' H' p'=>⟨xs.length-(i+1),by omega,rfl,qt,p'⟩,fun x H' y=>?_⟩
  obtain⟨e,y⟩:=y
  subst e
  exact hs i x σ _ (y xs q) p
 ·have e:i=xs.length:=by omega
  subst e
  exact .inl ⟨⟨xs,q,Nat.le_refl _⟩,hd σ H p⟩
theorem FA {K:PySem.W.Frag}{a:Addr}{xs:List V}{g:TG}{tb:TS}{D:Ends}{σ:St}{H:Hp} (Pv:Nat→St→Hp→Prop) (h0:Pv 0 σ H) (hl:∀ i σ H,i≤xs.length→Pv i σ H→df K H a xs)
  (hs:∀ i x σ H,xs[i]? = some x→Pv i σ H→g x σ H fun σ2 H2=>tb { D with nx:=Pv (i+1),ct:=Pv (i+1),bk:=D.nx } σ2 H2) (hd:∀ σ H,Pv xs.length σ H→D.nx σ H) :
  ∃ W:Nat→Nat→St→Hp→Prop,(∃ m,W 0 m σ H)∧∀ i m σ H,W i m σ H →
   ((MX K a).stop i H∧D.nx σ H)∨((MX K a).go i H∧∃ N:St→Hp→Prop,(∀ σ' H',N σ' H'→∃ m',m'<m∧W (i+1) m' σ' H')∧∀ x H',(MX K a).IH i H x H'→g x σ H' fun σ2 H2=>tb { D with nx:=N,ct:=N,bk:=D.nx } σ2 H2):=by
 refine⟨fun i m σ H=>m=xs.length-i∧i≤xs.length∧Pv i σ H,⟨xs.length,by simp,Nat.zero_le _,h0⟩,?_⟩
 rintro i m σ H ⟨rfl,hi,p⟩
 have q:=hl i σ H hi p
 by_cases qt:i<xs.length
 ·refine .inr ⟨⟨xs,xs[i],q,by simp [qt]⟩,Pv (i+1),fun σ' H' p'=>⟨xs.length-(i+1),by omega,rfl,qt,p'⟩,fun x H' y=>?_⟩
  obtain⟨e,y⟩:=y
  subst e
  exact hs i x σ _ (y xs q) p
 ·have e:i=xs.length:=by omega
  subst e
  exact .inl ⟨⟨xs,q,Nat.le_refl _⟩,hd σ H p⟩
theorem i8 {lo:Int}{n:Nat}{g:TG}{tb:TS}{D:Ends}{σ:St}{H:Hp} (Pv:Nat→St→Hp→Prop) (h0:Pv 0 σ H)
  (hs:∀ i σ H,i<n→Pv i σ H→g (.int (lo+i)) σ H fun σ2 H2=>tb { D with nx:=Pv (i+1),ct:=Pv (i+1),bk:=D.nx } σ2 H2) (hd:∀ σ H,Pv n σ H→D.nx σ H) :
  ∃ W:Nat→Nat→St→Hp→Prop,(∃ m,W 0 m σ H)∧∀ i m σ H,W i m σ H →
   ((Fz lo n).stop i H∧D.nx σ H)∨((Fz lo n).go i H∧∃ N:St→Hp→Prop,(∀ σ' H',N σ' H'→∃ m',m'<m∧W (i+1) m' σ' H')∧∀ x H',(Fz lo n).IH i H x H'→g x σ H' fun σ2 H2=>tb { D with nx:=N,ct:=N,bk:=D.nx } σ2 H2):=by
 refine⟨fun i m σ H=>m=n-i∧i≤n∧Pv i σ H,⟨n,by simp,Nat.zero_le _,h0⟩,?_⟩
 rintro i m σ H ⟨rfl,hi,p⟩
 by_cases qt:i<n
 ·refine .inr ⟨qt,Pv (i+1),fun σ' H' p'=>⟨n-(i+1),by omega,rfl,qt,p'⟩,fun x H' y=>?_⟩
  obtain⟨e,y⟩:=y
  subst e y
  exact hs i σ _ qt p
 ·have e:i=n:=by omega
  subst e
  exact .inl ⟨Nat.le_refl _,hd σ H p⟩
end L2
namespace L2
open PySem PySem.Spec PyProof.Rows
abbrev R2:=V→V→Hp→VK→Prop
def y2 (X:Cx) (f:Value→Value→Sem Value) (r:R2):Prop :=
 ∀ (pins:List (Addr×Obj)) (s:Shared) (σ:St) (H:Hp) (x y:V) (v u:Value) (Q:VK),Inv X pins σ H s→RelV x v→RelV y u→r x y H Q →
  wpAny (model X.prog X.w) X.A (f v u) (EP X pins σ Q) X.xe s
def Vo (X:Cx) (f:Value→Sem Value) (r:V→Hp→VK→Prop):Prop :=
 ∀ (pins:List (Addr×Obj)) (s:Shared) (σ:St) (H:Hp) (x:V) (v:Value) (Q:VK),Inv X pins σ H s→RelV x v→r x H Q →
  wpAny (model X.prog X.w) X.A (f v) (EP X pins σ Q) X.xe s
def gH (X:Cx) (f:Value) (r:List V→Hp→VK→Prop):Prop :=
 ∀ (pins:List (Addr×Obj)) (s:Shared) (σ:St) (H:Hp) (xs:List V) (us:List Value) (Q:VK),Inv X pins σ H s→Vals xs us→r xs H Q →
  wpAny (model X.prog X.w) X.A (call f us) (EP X pins σ Q) X.xe s
def Vp (X:Cx) (r:V→Hp→(Bool→Hp→Prop)→Prop):Prop :=
 ∀ (pins:List (Addr×Obj)) (s:Shared) (σ:St) (H:Hp) (x:V) (v:Value) (Q:Bool→Hp→Prop),Inv X pins σ H s→RelV x v→r x H Q →
  wpAny (model X.prog X.w) X.A (truthy v) (TP X pins σ Q) X.xe s
def tOp (r:R2) (ta tb:TE):TE:=fun σ H Q=>ta σ H fun x H1=>tb σ H1 fun y H2=>r x y H2 Q
def tUn (r:V→Hp→VK→Prop) (ta:TE):TE:=fun σ H Q=>ta σ H fun x H1=>r x H1 Q
def rI (C:Int→Int→Prop) (g:Int→Int→V):R2:=fun x y H Q=>∃ i j,x=.int i∧y=.int j∧C i j∧Q (g i j) H
def rI0 (g:Int→Int→V):R2:=fun x y H Q=>∃ i j,x=.int i∧y=.int j∧Q (g i j) H
def rU (g:Int→V):V→Hp→VK→Prop:=fun x H Q=>∃ i,x=.int i∧Q (g i) H
section
variable {X:Cx}{a b c:Expr}{ta tb tc:TE}{pos:Pos}
theorem Qr (ha:PE X a ta) (hb:PE X b tb) {pins:List (Addr×Obj)}{s:Shared}{σ:St}{H:Hp}{R:V→V→Hp→Prop} (I:Inv X pins σ H s)
  (h:ta σ H fun x H1=>tb σ H1 fun y H2=>R x y H2) {Q:Value→Shared→Prop}{f:Value→Value→Sem Value}
  (hf:∀ v u s2 x y H2,Inv X pins σ H2 s2→RelV x v→RelV y u→R x y H2→wpAny (model X.prog X.w) X.A (f v u) Q X.xe s2) :
  wpAny (model X.prog X.w) X.A (eval a X.env) (fun v s₁=>wpAny (model X.prog X.w) X.A (eval b X.env) (fun u s₂=>wpAny (model X.prog X.w) X.A (f v u) Q X.xe s₂) X.xe s₁) X.xe s:=by
 refine gZ (ha pins s σ H _ I h) fun v s1 ⟨x,H1,I1,r1,q1⟩=>?_
 refine gZ (hb pins s1 σ H1 _ I1 q1) fun u s2 ⟨y,H2,I2,r2,q2⟩=>?_
 exact hf v u s2 x y H2 I2 r1 r2 q2
theorem aI {op:Operator}{r:R2} (ho:y2 X (binaryOp op) r) (ha:PE X a ta) (hb:PE X b tb):PE X (.BinOp a op b pos) (tOp r ta tb):=by
 intro pins s σ H Q I h
 exact wpAny_BinOp (Qr ha hb I h fun v u s2 x y H2 I2 rx ry q=>ho pins s2 σ H2 x y v u Q I2 rx ry q)
theorem Ad {op:UnaryOp}{r:V→Hp→VK→Prop} (ho:Vo X (unaryOp op) r) (ha:PE X a ta):PE X (.UnaryOp op a pos) (tUn r ta):=by
 intro pins s σ H Q I h
 exact UnaryOp_ (gZ (ha pins s σ H _ I h) fun v s1 ⟨x,H1,I1,r1,q1⟩=>ho pins s1 σ H1 x v Q I1 r1 q1)
theorem UA {f:Value→Value→Sem Value}{C:Int→Int→Prop}{g:Int→Int→Int}
  (rule:∀ (i j:Int) (t u:Tok) (s:Shared) (Q:Value→Shared→Prop) (E:Value→Shared→Prop),C i j→Q (.int (g i j) s.toks) { s with toks:=s.toks+1 }→wpAny (model X.prog X.w) X.A (f (.int i t) (.int j u)) Q E s) :
  y2 X f (rI C fun i j=>.int (g i j)):=by
 intro pins s σ H x y v u Q I rx ry h
 obtain⟨i,j,rfl,rfl,hc,q⟩:=h
 obtain⟨t,rfl⟩:=rx
 obtain⟨t',rfl⟩:=ry
 exact rule i j t t' s _ _ hc ⟨.int (g i j),H,I.tok _,⟨_,rfl⟩,q⟩
theorem Sw {f:Value→Value→Sem Value}{g:Int→Int→Int}
  (rule:∀ (i j:Int) (t u:Tok) (s:Shared) (Q:Value→Shared→Prop) (E:Value→Shared→Prop),Q (.int (g i j) s.toks) { s with toks:=s.toks+1 }→wpAny (model X.prog X.w) X.A (f (.int i t) (.int j u)) Q E s) :
  y2 X f (rI0 fun i j=>.int (g i j)):=by
 intro pins s σ H x y v u Q I rx ry h
 obtain⟨i,j,rfl,rfl,q⟩:=h
 obtain⟨t,rfl⟩:=rx
 obtain⟨t',rfl⟩:=ry
 exact rule i j t t' s _ _ ⟨.int (g i j),H,I.tok _,⟨_,rfl⟩,q⟩
theorem OL {f:Value→Value→Sem Value}{g:Int→Int→Bool}
  (rule:∀ (i j:Int) (t u:Tok) (s:Shared) (Q:Value→Shared→Prop) (E:Value→Shared→Prop),Q (.bool (g i j)) s→wpAny (model X.prog X.w) X.A (f (.int i t) (.int j u)) Q E s) :
  y2 X f (rI0 fun i j=>.bl (g i j)):=by
 intro pins s σ H x y v u Q I rx ry h
 obtain⟨i,j,rfl,rfl,q⟩:=h
 obtain⟨t,rfl⟩:=rx
 obtain⟨t',rfl⟩:=ry
 exact rule i j t t' s _ _ ⟨.bl (g i j),H,I,rfl,q⟩
def CDiv (i j:Int):Prop:=0<j∧j<1073741824
def Vq (i j:Int):Prop:=0≤j∧j≤1000000∧i.natAbs<2 ^ 64
def CMul (i j:Int):Prop:=(-(2 ^ 64)<i∧i<2 ^ 64)∨(-(2 ^ 64)<j∧j<2 ^ 64)
theorem CMul.ok {i j:Int} (h:CMul i j):IntMulOk i j:=by
 rcases h with ⟨h1,h2⟩ | ⟨h1,h2⟩
 ·exact .of_left (intBits_le_64 h1 h2)
 ·exact .of_right (intBits_le_64 h1 h2)
theorem dF:y2 X (binaryOp .Add) (rI0 fun i j=>.int (i+j)):=Sw fun _ _ _ _ _ _ _ q=>add_int q
theorem C1:y2 X (binaryOp .Sub) (rI0 fun i j=>.int (i-j)):=Sw fun _ _ _ _ _ _ _ q=>sub_int q
theorem tO:y2 X (binaryOp .Mult) (rI CMul fun i j=>.int (i*j)):=UA fun _ _ _ _ _ _ _ hc q=>mul_int q hc.ok
theorem fO:y2 X (binaryOp .FloorDiv) (rI CDiv fun i j=>.int (i / j)):=UA fun i j _ _ _ _ _ hc q=>by
 have h1:(0:Int)<j:=hc.1
 have h2:j<1073741824:=hc.2
 exact floordiv_int (by omega) (by rw[Int.fdiv_eq_ediv_of_nonneg i (by omega)];exact q) (.inl (PyProof.noPylong_small (by omega)))
theorem cS:y2 X (binaryOp .Mod) (rI (fun _ j=>0<j) fun i j=>.int (i % j)):=UA fun i j _ _ _ _ _ hc q=>by
 have h1:(0:Int)<j:=hc
 exact mod_int' (by omega) (by rw[Int.fmod_eq_emod_of_nonneg i (by omega)];exact q)
theorem Qs:y2 X (binaryOp .Pow) (rI Vq fun i j=>.int (i ^ j.toNat)):=UA fun _ _ _ _ _ _ _ hc q=>pow_int_small hc.1 hc.2.1 hc.2.2 q
theorem Yw {f:Value→Sem Value}{g:Int→Int}
  (rule:∀ (i:Int) (t:Tok) (s:Shared) (Q:Value→Shared→Prop) (E:Value→Shared→Prop),Q (.int (g i) s.toks) { s with toks:=s.toks+1 }→wpAny (model X.prog X.w) X.A (f (.int i t)) Q E s) :
  Vo X f (rU fun i=>.int (g i)):=by
 intro pins s σ H x v Q I rx h
 obtain⟨i,rfl,q⟩:=h
 obtain⟨t,rfl⟩:=rx
 exact rule i t s _ _ ⟨.int (g i),H,I.tok _,⟨_,rfl⟩,q⟩
theorem uX:Vo X (unaryOp .USub) (rU fun i=>.int (-i)):=Yw fun _ _ _ _ _ q=>neg_int q
end
def MZ:V→V→Bool
 | .cU,.cU=>true | .cU,.int _=>true | .int _,.cU=>true | .cU,.bl _=>true | .bl _,.cU=>true | .cU,.str _=>true | .str _,.cU=>true
 | .int _,.int _=>true | .bl _,.bl _=>true | .str _,.str _=>true | .KY _,.KY _=>true
 | .int _,.str _=>true | .str _,.int _=>true | .bl _,.str _=>true | .str _,.bl _=>true
 | _,_=>false
def rEq:R2:=fun x y H Q=>MZ x y=true∧Q (.bl (decide (x=y))) H
def rNe:R2:=fun x y H Q=>MZ x y=true∧Q (.bl (!decide (x=y))) H
theorem K5 {i j:Int}:decide (V.int i=V.int j)=(i==j):=by
 rw[Bool.eq_iff_iff]
 simp
theorem M0 {i j:Bool}:decide (V.bl i=V.bl j)=(i==j):=by
 rw[Bool.eq_iff_iff]
 simp
theorem K6 {i j:Str}:decide (V.str i=V.str j)=(i==j):=by
 rw[Bool.eq_iff_iff]
 simp
theorem K7 {i j:Array UInt8}:decide (V.KY i=V.KY j)=(i.toList==j.toList):=by
 rw[Bool.eq_iff_iff]
 cases i
 cases j
 simp
section
variable {X:Cx}{a b c:Expr}{ta tb tc:TE}{pos:Pos}
theorem eO {pins:List (Addr×Obj)}{σ:St}{H:Hp}{s:Shared}{Q:VK}{k k':Bool} (I:Inv X pins σ H s) (q:Q (.bl k) H) (e:k=k'):EP X pins σ Q (.bool k') s:=by
 subst e
 exact⟨.bl k,H,I,rfl,q⟩
theorem dS:y2 X (compareOp .Eq) rEq:=by
 intro pins s σ H x y v u Q I rx ry h
 obtain⟨hs,q⟩:=h
 cases x with
 | cU =>
  cases rx
  cases y with
  | cU=>cases ry;exact PySem.EqNone.eq_none_none (eO I q (by simp))
  | bl j=>cases ry;exact PySem.EqNone.eq_none_bool (eO I q (by simp))
  | int j=>obtain⟨t',rfl⟩:=ry;exact PySem.EqNone.eq_none_int (eO I q (by simp))
  | str j=>obtain⟨t',rfl⟩:=ry;exact PySem.EqNone.eq_none_str (eO I q (by simp))
  | _=>exact absurd (show false=true from hs) Bool.false_ne_true
 | bl i =>
  cases rx
  cases y with
  | cU=>cases ry;exact PySem.EqNone.eq_bool_none (eO I q (by simp))
  | bl j=>cases ry;exact eq_bool (eO I q M0)
  | str j=>obtain⟨t',rfl⟩:=ry;exact PySem.EqMixed.eq_bool_str (eO I q (by simp))
  | _=>exact absurd (show false=true from hs) Bool.false_ne_true
 | int i =>
  obtain⟨t,rfl⟩:=rx
  cases y with
  | cU=>cases ry;exact PySem.EqNone.eq_int_none (eO I q (by simp))
  | int j=>obtain⟨t',rfl⟩:=ry;exact eq_int (eO I q K5)
  | str j=>obtain⟨t',rfl⟩:=ry;exact PySem.EqMixed.eq_int_str (eO I q (by simp))
  | _=>exact absurd (show false=true from hs) Bool.false_ne_true
 | str i =>
  obtain⟨t,rfl⟩:=rx
  cases y with
  | cU=>cases ry;exact PySem.EqNone.eq_str_none (eO I q (by simp))
  | bl j=>cases ry;exact PySem.EqMixed.eq_str_bool (eO I q (by simp))
  | int j=>obtain⟨t',rfl⟩:=ry;exact PySem.EqMixed.eq_str_int (eO I q (by simp))
  | str j=>obtain⟨t',rfl⟩:=ry;exact eq_str (eO I q K6)
  | _=>exact absurd (show false=true from hs) Bool.false_ne_true
 | KY i =>
  obtain⟨t,rfl⟩:=rx
  cases y with
  | KY j=>obtain⟨t',rfl⟩:=ry;exact PySem.W.eq_bytes (eO I q K7)
  | _=>exact absurd (show false=true from hs) Bool.false_ne_true
 | _=>cases y<;>exact absurd (show false=true from hs) Bool.false_ne_true
theorem Pp:y2 X (compareOp .NotEq) rNe:=by
 intro pins s σ H x y v u Q I rx ry h
 obtain⟨hs,q⟩:=h
 cases x with
 | cU =>
  cases rx
  cases y with
  | cU=>cases ry;exact PySem.EqNone.ne_none_none (eO I q (by simp))
  | bl j=>cases ry;exact PySem.EqNone.ne_none_bool (eO I q (by simp))
  | int j=>obtain⟨t',rfl⟩:=ry;exact PySem.EqNone.ne_none_int (eO I q (by simp))
  | str j=>obtain⟨t',rfl⟩:=ry;exact PySem.EqNone.ne_none_str (eO I q (by simp))
  | _=>exact absurd (show false=true from hs) Bool.false_ne_true
 | bl i =>
  cases rx
  cases y with
  | cU=>cases ry;exact PySem.EqNone.ne_bool_none (eO I q (by simp))
  | bl j=>cases ry;exact ne_bool (eO I q (congrArg not M0))
  | str j=>obtain⟨t',rfl⟩:=ry;exact PySem.EqMixed.ne_bool_str (eO I q (by simp))
  | _=>exact absurd (show false=true from hs) Bool.false_ne_true
 | int i =>
  obtain⟨t,rfl⟩:=rx
  cases y with
  | cU=>cases ry;exact PySem.EqNone.ne_int_none (eO I q (by simp))
  | int j=>obtain⟨t',rfl⟩:=ry;exact ne_int (eO I q (congrArg not K5))
  | str j=>obtain⟨t',rfl⟩:=ry;exact PySem.EqMixed.ne_int_str (eO I q (by simp))
  | _=>exact absurd (show false=true from hs) Bool.false_ne_true
 | str i =>
  obtain⟨t,rfl⟩:=rx
  cases y with
  | cU=>cases ry;exact PySem.EqNone.ne_str_none (eO I q (by simp))
  | bl j=>cases ry;exact PySem.EqMixed.ne_str_bool (eO I q (by simp))
  | int j=>obtain⟨t',rfl⟩:=ry;exact PySem.EqMixed.ne_str_int (eO I q (by simp))
  | str j=>obtain⟨t',rfl⟩:=ry;exact ne_str (eO I q (congrArg not K6))
  | _=>exact absurd (show false=true from hs) Bool.false_ne_true
 | KY i =>
  obtain⟨t,rfl⟩:=rx
  cases y with
  | KY j=>obtain⟨t',rfl⟩:=ry;exact PySem.W.ne_bytes (eO I q (congrArg not K7))
  | _=>exact absurd (show false=true from hs) Bool.false_ne_true
 | _=>cases y<;>exact absurd (show false=true from hs) Bool.false_ne_true
theorem wK:y2 X (compareOp .Lt) (rI0 fun i j=>.bl (decide (i<j))):=OL fun _ _ _ _ _ _ _ q=>lt_int q
theorem Ha:y2 X (compareOp .LtE) (rI0 fun i j=>.bl (decide (i≤j))):=OL fun _ _ _ _ _ _ _ q=>le_int q
theorem wL:y2 X (compareOp .Gt) (rI0 fun i j=>.bl (decide (j<i))):=OL fun _ _ _ _ _ _ _ q=>gt_int q
theorem M3:y2 X (compareOp .GtE) (rI0 fun i j=>.bl (decide (j≤i))):=OL fun _ _ _ _ _ _ _ q=>ge_int q
theorem LO:y2 X (compareOp .In) (fun x y H Q=>∃ i j,x=.str i∧y=.str j∧Q (.bl (!(Builtin.Str.occurrences j i 0 j.length 1).isEmpty)) H):=by
 intro pins s σ H x y v u Q I rx ry h
 obtain⟨i,j,rfl,rfl,q⟩:=h
 obtain⟨t,rfl⟩:=rx
 obtain⟨t',rfl⟩:=ry
 exact in_str (eO I q rfl)
theorem y2.or {f:Value→Value→Sem Value}{r r':R2} (h:y2 X f r) (h':y2 X f r'):y2 X f (fun x y H Q=>r x y H Q∨r' x y H Q):=by
 intro pins s σ H x y v u Q I rx ry q
 rcases q with q | q
 ·exact h pins s σ H x y v u Q I rx ry q
 ·exact h' pins s σ H x y v u Q I rx ry q
theorem aQ (b:Expr) {op:CmpOp} (h:op≠.In:=by decide) (h2:op≠.NotIn:=by decide):behindInMarks op b=false:=by
 have e1:(op==CmpOp.In)=false:=by cases op<;>first | rfl | exact absurd rfl h
 have e2:(op==CmpOp.NotIn)=false:=by cases op<;>first | rfl | exact absurd rfl h2
 cases b<;>simp [behindInMarks,e1,e2]
theorem kc {op:CmpOp}{r:R2} (ho:y2 X (compareOp op) r) (ha:PE X a ta) (hb:PE X b tb) (hm:behindInMarks op b=false):PE X (.Compare a [op] [b] pos) (tOp r ta tb):=by
 intro pins s σ H Q I h
 exact wpAny_Compare1 (Qr ha hb I h fun v u s2 x y H2 I2 rx ry q=>ho pins s2 σ H2 x y v u Q I2 rx ry q) hm
def tTest (t:TE):TT:=fun σ H Q=>t σ H fun x H'=>∃ k,x=.bl k∧Q k H'
theorem aL {op:CmpOp}{r:R2} (ho:y2 X (compareOp op) r) (ha:PE X a ta) (hb:PE X b tb) (hm:behindInMarks op b=false):PT X (.Compare a [op] [b] pos) (tTest (tOp r ta tb)):=by
 intro pins s σ H Q I h
 refine wpAny_isTrue_Compare1 (gZ (ha pins s σ H _ I h) fun v s1 ⟨x,H1,I1,r1,q1⟩=>gZ (hb pins s1 σ H1 _ I1 q1) fun u s2 ⟨y,H2,I2,r2,q2⟩ =>
  gZ (ho pins s2 σ H2 x y v u _ I2 r1 r2 q2) fun c s3 ⟨z,H3,I3,r3,k,e,q3⟩=>?_) hm
 subst e
 cases r3
 exact wpAny_truthy_bool ⟨H3,I3,q3⟩
def tChain (r r':R2) (ta tb tc:TE):TE:=fun σ H Q=>ta σ H fun x H1=>tb σ H1 fun y H2=>r x y H2 fun z H3=>∃ k,z=.bl k ∧
 (if k=true then tc σ H3 fun w' H4=>r' y w' H4 Q else Q (.bl false) H3)
theorem C2 {op UB:CmpOp}{r r':R2} (ho:y2 X (compareOp op) r) (CV:y2 X (compareOp UB) r') (ha:PE X a ta) (hb:PE X b tb) (hc:PE X c tc)
  (hm:lastMarks [op,UB] [b,c]=false:=by with_unfolding_all rfl):PT X (.Compare a [op,UB] [b,c] pos) (tTest (tChain r r' ta tb tc)):=by
 intro pins s σ H Q I h
 refine isTrue_chain (gZ (ha pins s σ H _ I h) fun v s1 ⟨x,H1,I1,r1,q1⟩=>test_link (gZ (hb pins s1 σ H1 _ I1 q1) fun u s2 ⟨y,H2,I2,r2,q2⟩ =>
  gZ (ho pins s2 σ H2 x y v u _ I2 r1 r2 q2) fun d s3 ⟨z,H3,I3,r3,k,e,q3⟩=>?_)) hm
 subst e
 cases r3
 refine wpAny_truthy_bool ?_
 cases k with
 | false =>
  obtain⟨k',e',q'⟩:=q3
  cases e'
  exact ite_ff ⟨H3,I3,q'⟩
 | true =>
  refine ite_tt (test_last (gZ (hc pins s3 σ H3 _ I3 q3) fun w' s4 ⟨z',H4,I4,r4,q4⟩=>gZ (CV pins s4 σ H4 y z' u w' _ I4 r2 r4 q4) fun d' s5 ⟨z2,H5,I5,r5,k2,e2,q5⟩=>?_))
  subst e2
  cases r5
  exact wpAny_truthy_bool ⟨H5,I5,q5⟩
def Sx (K:PySem.W.Frag) (x:V) (H:Hp) (k:Bool):Prop :=
 match x with
 | .cU=>k=false
 | .bl b=>k=b
 | .int i=>k=(i != 0)
 | .str y=>y.length≤sizeLine∧k=((y.length:Int) != 0)
 | .KY y=>y.size≤sizeLine∧k=((y.size:Int) != 0)
 | .ref p=>(∃ xs,bA K H p xs∧k = !xs.isEmpty)∨(∃ xs,df K H p xs∧k = !xs.isEmpty)∨∃ cR,H p=some (.dK cR)∧k = !cR.isEmpty
 | _=>False
theorem IV {κ:Type}{cR:List (κ×V)}{vs:List (κ×Value)} (r:KV cR vs):(!vs.isEmpty) = !cR.isEmpty:=by
 cases r<;>rfl
theorem C3 {xs:List V}{bF:List Value} (r:Vals xs bF):(!bF.toArray.isEmpty) = !xs.isEmpty:=by
 cases r<;>simp
theorem y3:(sizeLine:Nat)<2 ^ 63:=by rw[sizeLine_eq];decide
theorem Qt:Vp X (fun x H Q=>∃ k,Sx X.K x H k∧Q k H):=by
 intro pins s σ H x v Q I rx h
 obtain⟨k,e,q⟩:=h
 have hl:=y3
 have hs:sizeLine=16777216:=sizeLine_eq
 cases x with
 | cU =>
  cases rx
  have e':k=false:=e
  subst e'
  exact truthy_none ⟨H,I,q⟩
 | bl b =>
  cases rx
  have e':k=b:=e
  subst e'
  exact wpAny_truthy_bool ⟨H,I,q⟩
 | int i =>
  obtain⟨t,rfl⟩:=rx
  have e':k=(i != 0):=e
  subst e'
  exact PySem.P.truthy_int ⟨H,I,q⟩
 | str y =>
  obtain⟨t,rfl⟩:=rx
  obtain⟨hy,e'⟩:y.length≤sizeLine∧k=((y.length:Int) != 0):=e
  subst e'
  exact PySem.P.truthy_str (by omega) ⟨H,I.tok _,q⟩
 | KY y =>
  obtain⟨t,rfl⟩:=rx
  obtain⟨hy,e'⟩:y.size≤sizeLine∧k=((y.size:Int) != 0):=e
  subst e'
  exact PySem.W.truthy_bytes (by omega) ⟨H,I.tok _,q⟩
 | ref p =>
  cases rx
  have e':(∃ xs,bA X.K H p xs∧k = !xs.isEmpty)∨(∃ xs,df X.K H p xs∧k = !xs.isEmpty)∨∃ cR,H p=some (.dK cR)∧k = !cR.isEmpty:=e
  rcases e' with ⟨xs,hx,e'⟩ | ⟨xs,hx,e'⟩ | ⟨cR,hx,e'⟩
  ·subst e'
   obtain⟨bF,r,pl,hz⟩:=I.list hx
   have hlen:=r.length
   exact wpAny_truthy_list pl.isList (by simp only[List.size_toArray];omega) ⟨H,I.tok _,by rw[C3 r];exact q⟩
  ·subst e'
   obtain⟨bF,r,pl,hz⟩:=I.tuple hx
   have hlen:=r.length
   exact truthy_tuple pl (by simp only[List.size_toArray];omega) ⟨H,I.tok _,by rw[C3 r];exact q⟩
  ·subst e'
   obtain⟨hz,hS,vs,r,m⟩:cR.length≤sizeLine∧(p==sysModules)=false∧∃ vs,KV cR vs∧s.heap.DictOf (gi X.prog X.w) p vs:=I.d4 p _ hx
   have hlen:cR.length=vs.length:=Paired.length r
   exact wpAny_truthy_dict hS m (by omega) ⟨H,I.tok _,by rw[IV r];exact q⟩
 | _=>exact (show False from e).elim
theorem M4 (ha:PE X a ta) (he:∀ whole,isTrue a X.env whole=(do let v ←whole;standAt a.pos;holding [v] (truthy v))) :
  PT X a (fun σ H Q=>ta σ H fun x H'=>∃ k,Sx X.K x H' k∧Q k H'):=by
 intro pins s σ H Q I h
 exact isTrue_plain (gZ (ha pins s σ H _ I h) fun v s1 ⟨x,H1,I1,r1,q1⟩=>Qt pins s1 σ H1 x v Q I1 r1 q1) (he _)
theorem C4:y2 X (binaryOp .Add) (fun x y H Q=>∃ i j,x=.str i∧y=.str j∧i.length+j.length≤sizeLine∧Q (.str (i++j)) H):=by
 intro pins s σ H x y v u Q I rx ry h
 obtain⟨i,j,rfl,rfl,hz,q⟩:=h
 obtain⟨t,rfl⟩:=rx
 obtain⟨t',rfl⟩:=ry
 exact add_str (fun t' tk=>⟨.str (i++j),H,I.tok _,⟨_,rfl⟩,q⟩) hz
theorem vals1 {x:V}{us:List Value} (r:Vals [x] us):∃ u,us=[u]∧RelV x u:=by
 cases r with
 | cons r1 r2=>cases r2;exact⟨_,rfl,r1⟩
theorem vals2 {x y:V}{us:List Value} (r:Vals [x,y] us):∃ u w',us=[u,w']∧RelV x u∧RelV y w':=by
 cases r with
 | cons r1 r2 =>
  cases r2 with
  | cons r3 r4=>cases r4;exact⟨_,_,rfl,r1,r3⟩
theorem yv (hc:X.calm=true):gH X (.builtin "min") (fun xs H Q=>∃ i j,xs=[.int i,.int j]∧Q (.int (if j<i then j else i)) H):=by
 intro pins s σ H xs us Q I r h
 obtain⟨i,j,rfl,q⟩:=h
 obtain⟨u,w',rfl,⟨t,rfl⟩,⟨t',rfl⟩⟩:=vals2 r
 refine min_two_ints (I.ok.hd hc) fun h' tk k=>⟨_,H,I.kept k,?_,q⟩
 by_cases hj:j<i
 ·rw[if_pos hj,if_pos hj];exact⟨_,rfl⟩
 ·rw[if_neg hj,if_neg hj];exact⟨_,rfl⟩
theorem LP:gH X (.type "int") (fun xs H Q=>(∃ i,xs=[.int i]∧Q (.int i) H)∨∃ k,xs=[.bl k]∧Q (.int (if k then 1 else 0)) H):=by
 intro pins s σ H xs us Q I r h
 rcases h with ⟨i,rfl,q⟩ | ⟨k,rfl,q⟩
 ·obtain⟨u,rfl,t,rfl⟩:=vals1 r
  exact call_int_int ⟨.int i,H,I,⟨_,rfl⟩,q⟩
 ·obtain⟨u,rfl,r1⟩:=vals1 r
  cases r1
  exact call_int_bool ⟨.int (if k then 1 else 0),H,I.tok _,⟨_,rfl⟩,q⟩
end
end L2
namespace L2
open PySem PySem.Spec PyProof.Rows
structure IW (h:Heap) (x dx C:Addr) (mA:Str→Option Value):Prop where
 obj:h.get? x=some (PySem.W.instObj C dx)
 ns:h.Ns1 dx mA
 ne:dx≠x
theorem LQ {h:Heap}{dx:Addr}{mA:Str→Option Value} (n:h.Ns1 dx mA):∃ od,h.get? dx=some od∧∀ name,PySem.W.lookIn name od=some (mA name):=by
 obtain⟨o,es,ep,ho,hd,hk,_,hm⟩:=n
 refine⟨o,ho,fun name=>?_⟩
 have e:=hm name
 unfold nsFind findBy at e
 rw[←Array.find?_toList] at e
 unfold PySem.W.lookIn
 rw[hd]
 dsimp only
 split
 ·rename_i y q
  rw[q] at e
  exact congrArg some e
 ·rename_i q
  rw[q] at e
  have a:es.toList.any (·.refKey)=false:=by
   rw[List.any_eq_false]
   intro y hy
   obtain⟨z,t,Qu⟩:=hk y (Array.mem_toList_iff.mp hy)
   simp [DictEntry.refKey,Qu]
  have a':¬ es.toList.any (·.refKey)=true:=by rw[a];exact Bool.false_ne_true
  rw[if_neg a']
  exact congrArg some e
theorem IW.look {h:Heap}{x dx C:Addr}{mA:Str→Option Value} (I:IW h x dx C mA):∃ od,PySem.W.InstAt h x (PySem.W.instObj C dx) C (some od)∧∀ name,PySem.W.lookIn name od=some (mA name) :=
 let ⟨od,ho,hl⟩:=LQ I.ns
 ⟨od,⟨I.obj,rfl,rfl,ho⟩,hl⟩
section
variable {prog:Program}{w:World}{A:Around}{E:Value→Shared→Prop}{s:Shared}{K:PySem.W.Frag}{x dx C f:Addr}{mA:Str→Option Value}{name:Str}{v:Value}
theorem get_map {expr:Bool}{Q:Value→Shared→Prop} (X:K.In s.heap) (I:IW s.heap x dx C mA) (hg:PySem.W.plainGet K C name=true) (hh:PySem.W.hasDictIn K C=true)
  (ha:PySem.W.findIn K (.ref C) name=some none) (hv:mA name=some v) (OM:PySem.W.handedIn v=true) (h:Q v { s with toks:=s.toks+1 }) :
  wpAny (model prog w) A (getAttr (.ref x) name expr) Q E s:=by
 obtain⟨od,J,hl⟩:=I.look
 exact PySem.W.get_value X J (PySem.W.plainGet_of hg).1 (PySem.W.findObj_own hh ha rfl (by rw[hl,hv])) OM h
theorem M5 {pl:Sem Bool}{Q:Value×List Value→Shared→Prop} (X:K.In s.heap) (I:IW s.heap x dx C mA) (hg:PySem.W.plainGet K C name=true)
  (hf:PySem.W.findIn K (.ref C) name=some (some (.ref f))) (ht:PySem.W.isFn K (.ref f)=true) (hv:mA name=none) (h:Q (.ref f,[.ref x]) s) :
  wpAny (model prog w) A (getMethod (.ref x) name pl) Q E s:=by
 obtain⟨od,J,hl⟩:=I.look
 exact PySem.W.method_fn X J (PySem.W.plainGet_of hg).1 (PySem.W.plainGet_of hg).2 hf (beq_iff_eq.mp ht) (by show (PySem.W.lookIn name od).map (·.isSome)=some false;rw[hl,hv];rfl) h
theorem ON {ns:List Str}{Q:Unit→Shared→Prop} (X:K.In s.heap) (I:IW s.heap x dx C mA)
  (hs:PySem.W.findIn K (.ref C) "__setattr__" = some (some (.builtin "object.__setattr__"))) (hp:PySem.W.plainOver K C=true) (ht:PySem.W.takerIn K C name=some none) (hh:PySem.W.hasDictIn K C=true)
  (hw:PySem.Within mA ns) (hsz:ns.length≤sizeLine)
  (h:∀ h',IW h' x dx C (fun y=>if y=name then some v else mA y)→Heap.SameBut dx s.heap h'→Q () { s with heap:=h',toks:=s.toks+2 }) :
  wpAny (model prog w) A (setAttr (.ref x) name v) Q E s:=by
 obtain⟨od,J,hl⟩:=I.look
 refine PySem.W.set_plain X J hs (PySem.W.osa_open (s:={ s with toks:=s.toks+1 }) (r:=none) X J hp ht fun b=>?_)
 obtain⟨cd,hc,Et⟩:=PySem.W.any_some hh
 have hx:s.heap.get? x=some ⟨.ref C,some dx,.plain,#[]⟩:=I.obj
 refine wpAny_bind (wpAny_pure (wpAny_bind (wpAny_bind (wpAny_loadPart hx (wpAny_bind (PySem.W.Looks.here (s:={ s with toks:=s.toks+1 }) (PySem.W.looks_clsIn X hc) ?_))))))
 rw[Et]
 refine wpAny_pure (a:=some dx) (wpAny_bind (wpAny_pure (wpAny_bind ?_)))
 refine wpAny_nsSet1 (s:={ s with toks:=s.toks+1 }) I.ns fun h' LR Po=>?_
 obtain⟨oD,esD,epD,Yx,Yy,Yz⟩:=LR.count (PySem.Within.cons name v hw)
 refine wpAny_bind (wpAny_lookBehind Yx (by rw[Yy];exact pastItsLine_dict (Nat.le_trans Yz (by rw[List.length_cons];omega))) ?_)
 exact wpAny_pure (h _ ⟨(Po.2 _ (Ne.symm I.ne)).trans I.obj,LR,I.ne⟩ Po)
theorem M6 {R:Result→Shared→Prop}{vs:List Value}{kw:List (Str×Value)} (X:K.In s.heap) (hm:PySem.W.makesIn K C=true)
  (hi:PySem.W.findIn K (.ref C) "__init__" = some (some (.ref f))) (hf:PySem.W.typeIn K (.ref f)=some (.type "function"))
  (h:codeAny (model prog w) (A.under (.builtin "type.__call__" ⟨.ref C::vs,kw⟩)) (.call (.ref f) ⟨.ref (s.heap.objs.size+1)::vs,kw⟩) (PySem.W.InitBack (s.heap.objs.size+1) R)
   { s with heap:=(s.heap.push PySem.W.emptyDict).push (PySem.W.instObj C s.heap.objs.size) }) :
  codeAny (model prog w) A (.call (.ref C) ⟨vs,kw⟩) R s:=by
 obtain⟨hh,g,d,t,os⟩:=s
 exact PySem.W.make_core (PySem.W.makes_of X hm) (PySem.W.looks_findIn X hi) (fun self=>PySem.W.bind_fn X self hf) (.inl rfl) h
end
def oR (f:Str) (v:V):List (Str×V)→List (Str×V)
 | []=>[(f,v)]
 | (g,x)::r=>if g=f then (g,v)::r else (g,x)::oR f v r
theorem BR (f g:Str) (v:V):∀ fs:List (Str×V),(oR f v fs).lookup g=if g=f then some v else fs.lookup g
 | []=>by
  show List.lookup g [(f,v)]=_
  by_cases h:g=f
  ·have hb:(g==f)=true:=beq_iff_eq.mpr h
   simp only[List.lookup,hb,if_pos h]
  ·have hb:(g==f)=false:=beq_eq_false_iff_ne.mpr h
   simp only[List.lookup,hb,if_neg h]
 | (k,x)::r=>by
  have ih:=BR f g v r
  rw[show oR f v ((k,x)::r)=(if k=f then (k,v)::r else (k,x)::oR f v r) from rfl]
  by_cases hk:k=f
  ·rw[if_pos hk]
   by_cases h:g=k
   ·have hb:(g==k)=true:=beq_iff_eq.mpr h
    simp only[List.lookup,hb,if_pos (h.trans hk)]
   ·have hb:(g==k)=false:=beq_eq_false_iff_ne.mpr h
    simp only[List.lookup,hb,if_neg (fun e:g=f=>h (e.trans hk.symm))]
  ·rw[if_neg hk]
   by_cases h:g=k
   ·have hb:(g==k)=true:=beq_iff_eq.mpr h
    simp only[List.lookup,hb,if_neg (fun e:g=f=>hk (h.symm.trans e))]
   ·have hb:(g==k)=false:=beq_eq_false_iff_ne.mpr h
    simp only[List.lookup,hb]
    exact ih
theorem A3 (f:Str) (v:V):∀ fs:List (Str×V),f∈(oR f v fs).map (·.1)∧∀ g,g∈fs.map (·.1)→g∈(oR f v fs).map (·.1)
 | []=>⟨by simp [oR],fun g h=>by simp at h⟩
 | (k,x)::r=>by
  obtain⟨i1,i2⟩:=A3 f v r
  rw[show oR f v ((k,x)::r)=(if k=f then (k,v)::r else (k,x)::oR f v r) from rfl]
  by_cases hk:k=f
  ·rw[if_pos hk]
   subst hk
   exact⟨by simp,fun g h=>by simpa using h⟩
  ·rw[if_neg hk]
   refine⟨?_,fun g h=>?_⟩
   ·rw[List.map_cons]
    exact List.mem_cons_of_mem _ i1
   ·rw[List.map_cons] at h ⊢
    rcases List.mem_cons.mp h with e | e
    ·exact List.mem_cons.mpr (.inl e)
    ·exact List.mem_cons_of_mem _ (i2 g e)
theorem BS (f:Str) (v:V):∀ fs:List (Str×V),(oR f v fs).length≤fs.length+1
 | []=>by simp [oR]
 | (k,x)::r=>by
  have ih:=BS f v r
  rw[show oR f v ((k,x)::r)=(if k=f then (k,v)::r else (k,x)::oR f v r) from rfl]
  by_cases hk:k=f
  ·rw[if_pos hk,List.length_cons,List.length_cons];omega
  ·rw[if_neg hk,List.length_cons,List.length_cons];omega
theorem yD.some_of {v:V}{o:Option Value} (r:yD (some v) o):∃ u,o=some u∧RelV v u:=by
 cases o with
 | none=>exact (show False from r).elim
 | some u=>exact⟨u,rfl,r⟩
theorem yD.none_of {o:Option Value} (r:yD none o):o=none:=by
 cases o with
 | none=>rfl
 | some u=>exact (show False from r).elim
theorem LS {v:V}{u:Value} (r:RelV v u):PySem.W.handedIn u=true:=by
 cases v with
 | cU=>cases (show u=Value.none from r);rfl
 | bl b=>cases (show u=Value.bool b from r);rfl
 | int i=>obtain⟨t,e⟩:=(show ∃ t,u=Value.int i t from r);cases e;rfl
 | str x=>obtain⟨t,e⟩:=(show ∃ t,u=Value.str x t from r);cases e;rfl
 | KY b=>obtain⟨t,e⟩:=(show ∃ t,u=Value.bytes b t from r);cases e;rfl
 | Qe b=>obtain⟨t,e⟩:=(show ∃ t,u=Value.float b t from r);cases e;rfl
 | ref a=>cases (show u=Value.ref a from r);rfl
 | ty n=>cases (show u=Value.type n from r);rfl
section
variable {P:Program}{w:World}{H H':Hp}{h h':Heap}{a C dx:Addr}{fs Vd:List (Str×V)}
theorem CN (d4:wg P w H h) (e:H a=some (.ins C dx fs)):∃ mA,IW h a dx C mA∧(∀ f,yD (fs.lookup f) (mA f))∧PySem.Within mA (fs.map (·.1))∧fs.length≤1000∧H dx=some (.own a):=by
 obtain⟨d,z,ne,ob,mA,n,r,q⟩:=(show gj P w H h a (.ins C dx fs) from d4 a _ e)
 exact⟨mA,⟨ob,n,ne⟩,r,q,z,d⟩
end
structure yF (K:PySem.W.Frag) (C:Addr):Prop where
 pg:PySem.W.plainGet K C Str.empty=true
 hd:PySem.W.hasDictIn K C=true
 po:PySem.W.plainOver K C=true
 sa:PySem.W.findIn K (.ref C) "__setattr__" = some (some (.builtin "object.__setattr__"))
theorem yF.get {K:PySem.W.Frag}{C:Addr} (c:yF K C) (f:Str):PySem.W.plainGet K C f=true:=c.pg
def dg (K:PySem.W.Frag) (C:Addr) (f:Str):Prop:=PySem.W.findIn K (.ref C) f=some none
theorem dg.Sy {K:PySem.W.Frag}{C:Addr}{f:Str} (n:dg K C f):PySem.W.takerIn K C f=some none:=by
 unfold PySem.W.takerIn
 rw[show PySem.W.findIn K (.ref C) f=some none from n]
 rfl
structure Con (K:PySem.W.Frag) (C:Addr) (f:Str) (v:V) (u:Value):Prop where
 at_:PySem.W.findIn K (.ref C) f=some (some u)
 rel:RelV v u
 get:PySem.W.specialIn K u "__get__" = some none
 cp:PySem.W.copiedNames.contains f=false
structure Meth (K:PySem.W.Frag) (C:Addr) (m:Str) (f:Addr):Prop where
 at_:PySem.W.findIn K (.ref C) m=some (some (.ref f))
 fn:PySem.W.isFn K (.ref f)=true
 kp:PySem.W.keepIn K (.ref f)=true
section
variable {X:Cx}{pins:List (Addr×Obj)}{σ:St}{H:Hp}{s:Shared}{a C dx:Addr}{fs:List (Str×V)}{f:Str}{v:V}{A:Around}{E:Value→Shared→Prop}
theorem IY {b:Bool}{Q:Value→Shared→Prop} (I:Inv X pins σ H s) (e:H a=some (.ins C dx fs)) (c:yF X.K C) (n:dg X.K C f) (l:fs.lookup f=some v)
  (h:∀ u s',Inv X pins σ H s'→RelV v u→Q u s'):wpAny (model X.prog X.w) A (getAttr (.ref a) f b) Q E s:=by
 obtain⟨mA,O,r,_,_,_⟩:=CN I.d4 e
 obtain⟨u,hu,ru⟩:=yD.some_of (v:=v) (o:=mA f) (by rw[←l];exact r f)
 exact get_map I.A1 O (c.get f) c.hd n hu (LS ru) (h u _ (I.tok _) ru)
theorem C5 {m:Str}{g:Addr}{pl:Sem Bool}{Q:Value×List Value→Shared→Prop} (I:Inv X pins σ H s) (e:H a=some (.ins C dx fs)) (c:yF X.K C) (k:Meth X.K C m g) (l:fs.lookup m=none)
  (h:Q (.ref g,[.ref a]) s):wpAny (model X.prog X.w) A (getMethod (.ref a) m pl) Q E s:=by
 obtain⟨mA,O,r,_,_,_⟩:=CN I.d4 e
 have hn:mA m=none:=yD.none_of (by rw[←l];exact r m)
 exact M5 I.A1 O (c.get m) k.at_ k.fn hn h
theorem IZ {y:V}{u:Value}{Q:Unit→Shared→Prop} (I:Inv X pins σ H s) (e:H a=some (.ins C dx fs)) (c:yF X.K C) (n:dg X.K C f) (hl:fs.length<1000) (ry:RelV y u)
  (h:∀ s',Inv X pins σ (upd H a (.ins C dx (oR f y fs))) s'→Q () s'):wpAny (model X.prog X.w) A (setAttr (.ref a) f u) Q E s:=by
 obtain⟨mA,O,r,wi,_,ho⟩:=CN I.d4 e
 have hz:(fs.map (·.1)).length≤sizeLine:=by rw[List.length_map,sizeLine_eq];omega
 refine ON I.A1 O c.sa c.po n.Sy c.hd wi hz fun h' O' sb=>h _ ?_
 have hd:∃ o,h'.get? dx=some o:=let ⟨o,_,_,e',_⟩:=O'.ns;⟨o,e'⟩
 refine I.write (x:=a) (e:=dx) (by rw[e];exact True.intro) (.inr ho) (fun b q hb z=>(sb.2 b hb).trans z) hd ?_
 refine⟨by rw[aF O.ne];exact ho,?_,O.ne,O'.obj,_,O'.ns,fun g=>?_,fun g hg=>?_⟩
 ·have:=BS f y fs;omega
 ·show yD ((oR f y fs).lookup g) (if g=f then some u else mA g)
  rw[BR]
  by_cases q:g=f
  ·rw[if_pos q,if_pos q];exact ry
  ·rw[if_neg q,if_neg q];exact r g
 ·by_cases q:g=f
  ·rw[q];exact (A3 f y fs).1
  ·refine (A3 f y fs).2 g (wi g fun z=>hg ?_)
   show (if g=f then some u else mA g)=none
   rw[if_neg q];exact z
theorem Inv.made (I:Inv X pins σ H s):Inv X pins σ (upd (upd H s.heap.objs.size (.own (s.heap.objs.size+1))) (s.heap.objs.size+1) (.ins C s.heap.objs.size []))
  { s with heap:=(s.heap.push PySem.W.emptyDict).push (PySem.W.instObj C s.heap.objs.size) }:=by
 have e1:(s.heap.push PySem.W.emptyDict).get? s.heap.objs.size=some PySem.W.emptyDict:=Heap.get?_push_size s.heap rfl
 have e2:((s.heap.push PySem.W.emptyDict).push (PySem.W.instObj C s.heap.objs.size)).get? (s.heap.objs.size+1)=some (PySem.W.instObj C s.heap.objs.size):=by
  have:=Heap.get?_push_size (s.heap.push PySem.W.emptyDict) (o:=PySem.W.instObj C s.heap.objs.size) rfl
  rwa [Heap.size_push] at this
 have e3:(s.heap.push PySem.W.emptyDict).Ns s.heap.objs.size (fun _=>none):=⟨PySem.W.emptyDict,#[],_,e1,rfl,(fun e he=>absurd he (by simp)),fun _=>rfl⟩
 have I1:=I.laid (a:=s.heap.objs.size) (o:=.own (s.heap.objs.size+1)) (h':=s.heap.push PySem.W.emptyDict) (t':=s.toks) (fun b u q=>Heap.get?_push_of_some _ q) (Nat.le_refl _) ⟨_,e1⟩
 refine I1.laid (a:=s.heap.objs.size+1) (o:=.ins C s.heap.objs.size []) (t':=s.toks) (fun b u q=>Heap.get?_push_of_some _ q) (Nat.le_of_eq (Heap.size_push _ _)) ?_
 have ne:s.heap.objs.size≠s.heap.objs.size+1:=Nat.ne_of_lt (Nat.lt_succ_self _)
 refine⟨by rw[aF ne,ag],Nat.zero_le _,ne,e2,fun _=>none,(Heap.Ns1.of_empty e3).at fun o q=>Heap.get?_push_of_some _ q,fun _=>True.intro,fun y hy=>absurd rfl hy⟩
theorem OO {prog:Program}{w:World}{env:Env}{e:Expr}{f:Str}{pos:Pos}{s:Shared}{Q:Value→Shared→Prop} (hb:attributeBase e f env (eval e env)=eval e env)
  (h:wpAny (model prog w) A (eval e env) (fun o s₁=>wpAny (model prog w) A (getAttr o f true) Q E s₁) E s):wpAny (model prog w) A (eval (.Attribute e f pos) env) Q E s :=
 Attribute_any_ h (by rw[arm_eval_Attribute,hb])
end
def tFld (K:PySem.W.Frag) (ta:TE) (f:Str):TE:=fun σ H Q=>ta σ H fun x H1=>∃ a C dx fs v,x=.ref a∧H1 a=some (.ins C dx fs)∧yF K C∧dg K C f∧fs.lookup f=some v∧Q v H1
def sFld (K:PySem.W.Frag) (ta tv:TE) (f:Str):TS:=fun D σ H=>tv σ H fun y H1=>ta σ H1 fun x H2=>∃ a C dx fs,x=.ref a∧H2 a=some (.ins C dx fs)∧yF K C∧dg K C f∧fs.length<1000 ∧
 D.nx σ (upd H2 a (.ins C dx (oR f y fs)))
section
variable {X:Cx}{o e value:Expr}{f:Str}{pos pos' Vr:Pos}{ta tv:TE}
theorem bt (he:PE X e ta) (hb:attributeBase e f X.env (eval e X.env)=eval e X.env):PE X (.Attribute e f pos) (tFld X.K ta f):=by
 intro pins s σ H Q I h
 refine OO hb (gZ (he pins s σ H _ I h) fun u s1 ⟨x,H1,I1,rx,a,C,dx,fs,v,ex,ea,c,n,l,q⟩=>?_)
 subst ex
 obtain rfl:u=Value.ref a:=rx
 exact IY I1 ea c n l fun u' s2 I2 ru=>⟨v,H1,I2,ru,q⟩
theorem qu (ha:PE X o ta) (hv:PE X value tv) (hs:swapsWith value (some (.Attribute o f pos')) pos.line X.env=pure false):PS X (.Assign [.Attribute o f pos'] value pos) (sFld X.K ta tv f):=by
 intro pins s σ H D I h
 refine plainObj_wpAny_Assign_Attribute (gZ (hv pins s σ H _ I h) fun u s1 ⟨y,H1,I1,ry,q⟩=>gZ (ha pins s1 σ H1 _ I1 q) fun ov s2 ⟨x,H2,I2,rx,a,C,dx,fs,ex,ea,c,n,l,q2⟩=>?_) hs
 subst ex
 obtain rfl:ov=Value.ref a:=rx
 exact IZ I2 ea c n l ry fun s3 I3=>⟨σ,_,I3,q2⟩
end
section
variable {X:Cx}{pins:List (Addr×Obj)}{σ:St}{H:Hp}{s:Shared}{A:Around}{E:Value→Shared→Prop}{Q:Value→Shared→Prop}{c:Value}{b:Bool}
inductive wM (K:PySem.W.Frag) (H:Hp):V→Value→Prop where
 | cU:wM K H .cU (.type "NoneType")
 | bl (x:Bool):wM K H (.bl x) (.type "bool")
 | int (i:Int):wM K H (.int i) (.type "int")
 | str (x:Str):wM K H (.str x) (.type "str")
 | Qe (x:UInt64):wM K H (.Qe x) (.type "float")
 | lst {a:Addr}{xs:List V} (e:H a=some (.lst xs)):wM K H (.ref a) (.type "list")
 | yE {a:Addr}{o:Obj}{xs:List V} (e:H a=some (.yE o (.lst xs))):wM K H (.ref a) (.type "list")
 | tup {a:Addr}{xs:List V} (e:H a=some (.tup xs)):wM K H (.ref a) (.type "tuple")
 | dK {a:Addr}{cR:List (Key×V)} (e:H a=some (.dK cR)):wM K H (.ref a) (.type "dict")
 | dT {a:Addr}{cR:List (List Key×V)} (e:H a=some (.dT cR)):wM K H (.ref a) (.type "dict")
 | ins {a C dx:Addr}{fs:List (Str×V)} (e:H a=some (.ins C dx fs)) (cl:yF K C) (ha:PySem.W.findIn K (.ref C) "__class__" = some (some (.builtin "object.__class__")))
   (hn:PySem.W.specialIn K (.builtin "object.__class__") "__get__" = some (some (.builtin "getset_descriptor.__get__"))) (Vs:PySem.W.takesIn K (.builtin "object.__class__")=some true)
   (hm:PySem.W.mroIn K C (.type "object")=some true):wM K H (.ref a) (.ref C)
theorem LU {x:V}{u t:Value} (I:Inv X pins σ H s) (rx:RelV x u) (ty:wM X.K H x t) (e:PySem.W.kitOne X.K t c=some b) (h:∀ tk,Q (.bool b) { s with toks:=tk }) :
  wpAny (model X.prog X.w) A (call (.builtin "isinstance") [u,c]) Q E s:=by
 cases ty with
 | cU=>cases (show u=Value.none from rx);exact PySem.W.kia_one PySem.W.kitx_none I.A1 True.intro e (fun z=>nomatch z) h
 | bl y=>cases (show u=Value.bool y from rx);exact PySem.W.kia_one PySem.W.kitx_bool I.A1 True.intro e (fun z=>nomatch z) h
 | int i=>obtain⟨t,q⟩:=(show ∃ t,u=Value.int i t from rx);cases q;exact PySem.W.kia_one PySem.W.kitx_int I.A1 True.intro e (fun z=>nomatch z) h
 | str y=>obtain⟨t,q⟩:=(show ∃ t,u=Value.str y t from rx);cases q;exact PySem.W.kia_one PySem.W.kitx_str I.A1 True.intro e (fun z=>nomatch z) h
 | Qe y=>obtain⟨t,q⟩:=(show ∃ t,u=Value.float y t from rx);cases q;exact PySem.W.kia_one PySem.W.kitx_float I.A1 True.intro e (fun z=>nomatch z) h
 | @lst a xs ea =>
  cases (show u=Value.ref a from rx)
  obtain⟨_,_,n,_,h1⟩:=(show gj X.prog X.w H s.heap a (.lst xs) from I.d4 a _ ea)
  exact PySem.W.kia_one PySem.W.kitx_list I.A1 ⟨_,h1,rfl⟩ e (fun z=>nomatch z) h
 | @yE a ob xs ea =>
  cases (show u=Value.ref a from rx)
  obtain⟨_,_,_,n,_,h1⟩:=(show gj X.prog X.w H s.heap a (.yE ob (.lst xs)) from I.d4 a _ ea)
  exact PySem.W.kia_one PySem.W.kitx_list I.A1 ⟨_,h1,rfl⟩ e (fun z=>nomatch z) h
 | @tup a xs ea =>
  cases (show u=Value.ref a from rx)
  obtain⟨_,_,_,p⟩:=(show gj X.prog X.w H s.heap a (.tup xs) from I.d4 a _ ea)
  obtain⟨o,h1,h2,_⟩:=p
  exact PySem.W.kia_one PySem.W.kitx_tuple I.A1 ⟨o,h1,h2⟩ e (fun z=>nomatch z) h
 | @dK a cR ea =>
  cases (show u=Value.ref a from rx)
  obtain⟨_,_,vs,_,p⟩:=(show gj X.prog X.w H s.heap a (.dK cR) from I.d4 a _ ea)
  obtain⟨o,es,ep,h1,h2,_⟩:=p
  exact PySem.W.kia_one PySem.W.kitx_dict I.A1 ⟨o,h1,h2.1⟩ e (fun z=>nomatch z) h
 | @dT a cR ea =>
  cases (show u=Value.ref a from rx)
  obtain⟨_,_,xs,_,o,es,ep,h1,h2,_⟩:=(show gj X.prog X.w H s.heap a (.dT cR) from I.d4 a _ ea)
  exact PySem.W.kia_one PySem.W.kitx_dict I.A1 ⟨o,h1,h2.1⟩ e (fun z=>nomatch z) h
 | @ins a C dx fs ea cl ha hn Vs hm =>
  cases (show u=Value.ref a from rx)
  obtain⟨mA,O,_⟩:=CN I.d4 ea
  obtain⟨od,J,_⟩:=O.look
  exact PySem.W.kia_one (PySem.W.kitx_own (cl.get _) cl.hd ha hn Vs hm) I.A1 J e (fun z=>nomatch z) h
end
end L2
namespace L2
open PySem PySem.Spec PyProof.Rows
structure mT (k:Nat) (A:Around):Prop where
 hd:A.handled=none
 dp:A.depth+3*k+5<recursionLimit
 un:A.units+16*k+200<cLine
theorem mT.mono {j k:Nat}{A:Around} (r:mT k A) (h:j≤k):mT j A:=⟨r.hd,by have:=r.dp;omega,by have:=r.un;omega⟩
theorem mT.deeper {k:Nat}{A:Around} (r:mT (k+1) A) (env:Env):mT k (A.deeper env) :=
 ⟨r.hd,by have:=r.dp;show A.depth+1+3*k+5<_;omega,by have:=r.un;show A.units+3+16*k+200<_;omega⟩
theorem mT.in1 {k:Nat}{A:Around} (r:mT (k+1) A):mT k A.in1 :=
 ⟨r.hd,by have:=r.dp;show A.depth+3*k+5<_;omega,by have:=r.un;show A.units+1+16*k+200<_;omega⟩
theorem Ja {A:Around}{C:Addr}{us:List Value}{kw:List (Str×Value)}:(A.under (.builtin "type.__call__" ⟨.ref C::us,kw⟩)).depth=A.depth+1:=by
 first | rfl | simp [Around.under,Code.weight,Code.isCreation,Code.isGuard,Code.isCaller,Code.frames,Code.isFrame,guardIds]
theorem Jb {A:Around}{C:Addr}{us:List Value}{kw:List (Str×Value)}:(A.under (.builtin "type.__call__" ⟨.ref C::us,kw⟩)).units=A.units+1:=by
 first | rfl | simp [Around.under,Code.cUnits,Code.frames,Code.isFrame]
theorem mT.make {k:Nat}{A:Around} (r:mT (k+1) A) (C:Addr) (us:List Value) (kw:List (Str×Value)):mT k (A.under (.builtin "type.__call__" ⟨.ref C::us,kw⟩)) :=
 ⟨r.hd,by have:=r.dp;rw[Ja];omega,by have:=r.un;rw[Jb];omega⟩
theorem mT.depth {k:Nat}{A:Around} (r:mT k A):A.depth<recursionLimit:=by have:=r.dp;omega
theorem mT.units {k:Nat}{A:Around} (r:mT k A):A.units+64<cLine:=by have:=r.un;omega
def tNil:TA:=fun _ H Q=>Q [] H
def tCons (ta:TE) (tr:TA):TA:=fun σ H Q=>ta σ H fun x H1=>tr σ H1 fun xs H2=>Q (x::xs) H2
section
variable {X:Cx}{e:Expr}{es:List Expr}{te:TE}{t:TA}{pos:Pos}
theorem af:PA X [] tNil:=fun _ _ _ _ H Q I h=>Calls.spliced_nil ⟨[],H,I,.nil,h⟩
theorem ae (ha:PE X e te) (hr:PA X es t) (hs:starEach (e::es) X.env=(false,eval e X.env)::starEach es X.env:=by rfl):PA X (e::es) (tCons te t):=by
 intro pos pins s σ H Q I h
 rw[hs]
 show wpAny _ _ (spliced ((false,eval e X.env)::backTo pos (starEach es X.env))) _ _ s
 refine Calls.spliced_cons (gZ (ha pins s σ H _ I h) fun u s1 ⟨x,H1,I1,r1,q1⟩=>?_)
 exact gZ (hr pos pins s1 σ H1 _ I1 q1) fun us s2 ⟨xs,H2,I2,r2,q2⟩=>⟨x::xs,H2,I2,.cons r1 r2,q2⟩
def tTup (t:TA):TE:=fun σ H Q=>t σ H fun xs H1=>xs.length≤sizeLine∧∀ p,H1 p=none→Q (.ref p) (upd H1 p (.tup xs))
def tLst (t:TA):TE:=fun σ H Q=>t σ H fun xs H1=>xs.length≤sizeLine∧∀ p,H1 p=none→Q (.ref p) (upd H1 p (.lst xs))
theorem i9 {x1} (h:PA X es t):PE X (.Tuple es x1 pos) (tTup t):=by
 intro pins s σ H Q I hq
 refine wpAny_Tuple_spliced (gZ (h pos pins s σ H _ I hq) fun us s1 ⟨xs,H1,I1,r,z,q⟩=>⟨by rw[←r.length];exact z,?_⟩)
 have hf:H1 s1.heap.objs.size=none:=I1.d4.fresh (Nat.le_refl _)
 refine⟨.ref s1.heap.objs.size,upd H1 s1.heap.objs.size (.tup xs),I1.laid (t':=s1.toks) (fun b u e=>Heap.get?_push_of_some _ e) (Nat.le_refl _) ?_,rfl,q _ hf⟩
 exact⟨z,us,r,⟨_,Heap.get?_push_size _ rfl,rfl,_,rfl⟩⟩
theorem gK (h:PA X es t):PE X (.List es pos) (tLst t):=by
 intro pins s σ H Q I hq
 refine wpAny_List_spliced (gZ (h pos pins s σ H _ I hq) fun us s1 ⟨xs,H1,I1,r,z,q⟩=>⟨by rw[←r.length];exact z,?_⟩)
 have hf:H1 s1.heap.objs.size=none:=I1.d4.fresh (Nat.le_refl _)
 refine⟨.ref s1.heap.objs.size,upd H1 s1.heap.objs.size (.lst xs),I1.laid (t':=s1.toks) (fun b u e=>Heap.get?_push_of_some _ e) (Nat.le_refl _) ?_,rfl,q _ hf⟩
 exact⟨z,us,0,r,Heap.get?_push_size _ rfl⟩
end
abbrev Sp:=List V→Hp→VK→XK→Prop
abbrev II:=List Env→Hp→Shared→XK→Value→Shared→Prop
structure C6 (P:Program) (w:World) (K:PySem.W.Frag) (mg:Str→Option Value) (base:Heap) (A:Around) (outer:List Env) (s:Shared) (H:Hp):Prop where
 frames:A.frames=some outer
 mod:Mod K mg base
 bs:∀ b o,base.get? b=some o→s.heap.get? b=some o∧H b=none
 KZ:base.objs.size≤s.heap.objs.size
 uV:s.heap.FunFrames base outer
 Oz:∀ b∈uD outer,H b=none
 d4:wg P w H s.heap
 bare:AllBare s.gens
def CE (outer:List Env) (P:Program) (w:World) (H:Hp) (s:Shared) (Q:VK) (u:Value) (s':Shared):Prop :=
 ∃ v H',s'.os=s.os∧AllBare s'.gens∧Un (uD outer) [] H H' s.heap s'.heap∧wg P w H' s'.heap∧RelV v u∧Q v H'
def CR (CX:II) (outer:List Env) (P:Program) (w:World) (H:Hp) (s:Shared) (Q:VK) (E:XK) (r:Result) (s':Shared):Prop :=
 match r with
 | .ok (.ret u)=>CE outer P w H s Q u s'
 | .ok _=>False
 | .error e=>CX outer H s E e s'
structure av (P:Program) (w:World) (K:PySem.W.Frag) (mg:Str→Option Value) (base:Heap) (CX:II) (k:Nat) (f:Addr) (fd:FuncData) (ps:List Str) (sp:Sp):Prop where
 len:∀ vs H Q E,sp vs H Q E→vs.length=ps.length
 run:∀ (A:Around) (outer:List Env) (s:Shared) (H:Hp) (args:Args) (us:List Value) (vs:List V) (Q:VK) (E:XK),mT k A→C6 P w K mg base A outer s H→BindsTo s fd args (ps.zip us)→Vals vs us→sp vs H Q E →
  codeAny (model P w) A (.call (.ref f) args) (CR CX outer P w H s Q E) s
theorem av.mono {P:Program}{w:World}{K:PySem.W.Frag}{mg:Str→Option Value}{base:Heap}{CX:II}{j k:Nat}{f:Addr}{fd:FuncData}{ps:List Str}{sp:Sp} (F:av P w K mg base CX j f fd ps sp) (h:j≤k) :
  av P w K mg base CX k f fd ps sp:=⟨F.len,fun A outer s H args us vs Q E hr=>F.run A outer s H args us vs Q E (hr.mono h)⟩
theorem av.imp {P:Program}{w:World}{K:PySem.W.Frag}{mg:Str→Option Value}{base:Heap}{CX:II}{k:Nat}{f:Addr}{fd:FuncData}{ps:List Str}{sp Xl:Sp} (F:av P w K mg base CX k f fd ps sp)
  (h:∀ vs H Q E,Xl vs H Q E→sp vs H Q E):av P w K mg base CX k f fd ps Xl :=
 ⟨fun vs H Q E q=>F.len vs H Q E (h _ _ _ _ q),fun A outer s H args us vs Q E hr he hb hv hs=>F.run A outer s H args us vs Q E hr he hb hv (h _ _ _ _ hs)⟩
theorem C6.make {P:Program}{w:World}{K:PySem.W.Frag}{mg:Str→Option Value}{base:Heap}{A:Around}{outer:List Env}{s:Shared}{H:Hp} (e:C6 P w K mg base A outer s H) (C:Addr) (us:List Value) (kw:List (Str×Value)) :
  C6 P w K mg base (A.under (.builtin "type.__call__" ⟨.ref C::us,kw⟩)) outer s H:=⟨by first | exact e.frames | (simpa [Around.under,Code.envs,Code.isFrame,pushEnvs] using e.frames),e.mod,e.bs,e.KZ,e.uV,e.Oz,e.d4,e.bare⟩
theorem C6.in1 {P:Program}{w:World}{K:PySem.W.Frag}{mg:Str→Option Value}{base:Heap}{A:Around}{outer:List Env}{s:Shared}{H:Hp} (e:C6 P w K mg base A outer s H) :
  C6 P w K mg base A.in1 outer s H:=⟨e.frames,e.mod,e.bs,e.KZ,e.uV,e.Oz,e.d4,e.bare⟩
section
variable {X:Cx}{pins:List (Addr×Obj)}{σ:St}{H:Hp}{s s':Shared}
theorem Inv.Sz (I:Inv X pins σ H s):C6 X.prog X.w X.K X.mg X.base X.A X.stack s H :=
 ⟨I.ok.frames,I.ok.mod,I.bs,Nat.le_trans I.ok.KZ I.sz,I.stack,I.CM,I.d4,I.bare⟩
theorem Inv.after {Q:VK}{u:Value} (I:Inv X pins σ H s) (h:CE X.stack X.prog X.w H s Q u s'):EP X pins σ Q u s':=by
 obtain⟨v,H',os,bare,un,d4,r,q⟩:=h
 obtain⟨hh,g,d,t,YA⟩:=s'
 obtain rfl:YA=s.os:=os
 exact⟨v,H',I.call (h':=hh) (g':=g) (d':=d) (t':=t) (ch:=[]) un d4 bare (fun b z=>absurd z (by simp)),r,q⟩
end
def tCall (sp:Sp) (BU:List V) (E:XK) (t:TA):TE:=fun σ H Q=>t σ H fun vs H1=>sp (vs++BU) H1 Q E
def tMeth (C:Addr) (m:Str) (sp:Sp) (BU:List V) (E:XK) (ta:TE) (t:TA):TE:=fun σ H Q=>ta σ H fun x H1=>∃ a dx fs,x=.ref a∧H1 a=some (.ins C dx fs)∧fs.lookup m=none ∧
 t σ H1 fun vs H2=>sp (x::(vs++BU)) H2 Q E
def tMake (C:Addr) (sp:Sp) (BU:List V) (E:XK) (t:TA):TE:=fun σ H Q=>t σ H fun vs H1=>∀ x dx,H1 x=none→H1 dx=none→dx≠x →
 sp (.ref x::(vs++BU)) (upd (upd H1 dx (.own x)) x (.ins C dx [])) (fun v H2=>v=.cU∧Q (.ref x) H2) E
def Binds (K:PySem.W.Frag) (fd:FuncData) (ps:List Str) (ds:List Value):Prop :=
 ∀ (s:Shared) (us:List Value),K.In s.heap→(us++ds).length=ps.length→BindsTo s fd ⟨us,[]⟩ (ps.zip (us++ds))
theorem Binds.all {K:PySem.W.Frag}{fd:FuncData}{ps:List Str} (h:∀ us:List Value,us.length=ps.length→bindArgs fd ⟨us,[]⟩=pure (ps.zip us)):Binds K fd ps []:=fun s us _ hl=>by
 rw[List.append_nil] at hl ⊢
 exact .of_eq (h us hl)
def Passes (CX:II) (X:Cx) (E:XK):Prop:=∀ (pins:List (Addr×Obj)) (σ:St) (H:Hp) (s:Shared) (e:Value) (s':Shared),Inv X pins σ H s→CX X.stack H s E e s'→X.xe e s'
section
variable {X:Cx}{CX:II}{k:Nat}{f C:Addr}{fd:FuncData}{ps:List Str}{sp:Sp}{BU:List V}{ds:List Value}{E:XK}{x m:Str}{p pos apos:Pos}{e o:Expr}{es:List Expr}{ta:TE}{t:TA}
theorem FC {pins:List (Addr×Obj)}{σ:St}{H:Hp}{s:Shared}{Q:VK}{us:List Value}{vs:List V} (F:av X.prog X.w X.K X.mg X.base CX k f fd ps sp) (hr:mT k X.A) (hb:Binds X.K fd ps ds) (hd:Vals BU ds) (hx:Passes CX X E)
  (I:Inv X pins σ H s) (r:Vals vs us) (h:sp (vs++BU) H Q E):wpAny (model X.prog X.w) X.A (call (.ref f) us) (EP X pins σ Q) X.xe s:=by
 have r2:Vals (vs++BU) (us++ds):=r.append hd
 have hl:(us++ds).length=ps.length:=by rw[←r2.length];exact F.len _ _ _ _ h
 refine wpAny_call (codeAny_mono (F.run X.A X.stack s H ⟨us,[]⟩ (us++ds) (vs++BU) Q E hr I.Sz (hb s us I.A1 hl) r2 h) fun r s' hq=>?_)
 cases r with
 | error e=>exact hx pins σ H s e s' I hq
 | ok fl =>
  cases fl with
  | ret u=>exact I.after hq
  | next=>exact False.elim hq
  | brk=>exact False.elim hq
  | cont=>exact False.elim hq
theorem aT (F:av X.prog X.w X.K X.mg X.base CX k f fd ps sp) (hr:mT k X.A) (hg:Gl X x) (hm:X.mg x=some (.ref f)) (hk:PySem.W.keepIn X.K (.ref f)=true) (hb:Binds X.K fd ps ds) (hd:Vals BU ds) (hx:Passes CX X E)
  (ha:PA X (e::es) t) (OP:(x==("__debug__" : Str))=false:=by decide) (he:starEach (e::es) X.env=(false,eval e X.env)::starEach es X.env:=by rfl) (Cs:(backTo pos (starEach es X.env)).any (·.1)=false:=by rfl) :
  PE X (.Call (.Name x p) (e::es) [] pos) (tCall sp BU E t):=by
 intro pins s σ H Q I h
 refine wpAny_Call_Name_kw (z7 I hg hm ?_ OP)
 refine PySem.W.callWith_K (h₀:=X.base) I.ok.mod.Qh hk (gZ (ha pos pins s σ H _ I h) fun us s1 ⟨vs,H1,I1,r,q⟩=>⟨I1.A1,?_⟩) he Cs
 exact FC F hr hb hd hx I1 r q
theorem au {pl:Sem Bool} (he:PE X o ta) (c:yF X.K C) (hm:Meth X.K C m f) (F:av X.prog X.w X.K X.mg X.base CX k f fd ps sp) (hr:mT k X.A) (hb:Binds X.K fd ps ds) (hd:Vals BU ds) (hx:Passes CX X E) (ha:PA X (e::es) t)
  (Sq:starEach (e::es) X.env=(false,eval e X.env)::starEach es X.env:=by rfl) (Cs:(backTo pos (starEach es X.env)).any (·.1)=false:=by rfl)
  (ht:eval (.Call (.Attribute o m apos) (e::es) [] pos) X.env=(do
   let ov ←eval o X.env
   standAt apos.atName
   let (f,first) ←holding [ov] (getMethod ov m pl)
   callWith pos f first (backTo pos (starEach (e::es) X.env)) (backToKw pos (keywordEach [] X.env))):=by rfl) :
  PE X (.Call (.Attribute o m apos) (e::es) [] pos) (tMeth C m sp BU E ta t):=by
 intro pins s σ H Q I h
 refine PySem.W.methodCall_KW (pl:=pl) (gZ (he pins s σ H _ I h) fun u s1 ⟨x,H1,I1,rx,a,dx,fs,ex,ea,l,q⟩=>?_) ht
 subst ex
 obtain rfl:u=Value.ref a:=rx
 refine C5 I1 ea c hm l ?_
 refine PySem.W.callWith_K (first:=[.ref a]) (h₀:=X.base) I.ok.mod.Qh hm.kp (gZ (ha pos pins s1 σ H1 _ I1 q) fun us s2 ⟨vs,H2,I2,r,q2⟩=>⟨I2.A1,?_⟩) Sq Cs
 exact FC (us:=.ref a::us) (vs:=.ref a::vs) F hr hb hd hx I2 (.cons rfl r) q2
theorem eo {pl:Sem Bool} (he:PE X o ta) (c:yF X.K C) (hm:Meth X.K C m f) (F:av X.prog X.w X.K X.mg X.base CX k f fd ps sp) (hr:mT k X.A) (hb:Binds X.K fd ps ds) (hd:Vals BU ds) (hx:Passes CX X E)
  (ht:eval (.Call (.Attribute o m apos) [] [] pos) X.env=(do
   let ov ←eval o X.env
   standAt apos.atName
   let (f,first) ←holding [ov] (getMethod ov m pl)
   callWith pos f first (backTo pos (starEach [] X.env)) (backToKw pos (keywordEach [] X.env))):=by rfl) :
  PE X (.Call (.Attribute o m apos) [] [] pos) (tMeth C m sp BU E ta tNil):=by
 intro pins s σ H Q I h
 refine PySem.W.methodCall_KW (pl:=pl) (gZ (he pins s σ H _ I h) fun u s1 ⟨x,H1,I1,rx,a,dx,fs,ex,ea,l,q⟩=>?_) ht
 subst ex
 obtain rfl:u=Value.ref a:=rx
 refine C5 I1 ea c hm l ?_
 exact PySem.W.callWith_K0 (first:=[.ref a]) I1.A1 hm.kp (FC (us:=[.ref a]) (vs:=[.ref a]) F hr hb hd hx I1 (.cons rfl .nil) q)
structure Mk (K:PySem.W.Frag) (C f:Addr):Prop where
 makes:PySem.W.makesIn K C=true
 init:PySem.W.findIn K (.ref C) "__init__" = some (some (.ref f))
 fn:PySem.W.isFn K (.ref f)=true
 kp:PySem.W.keepIn K (.ref C)=true
theorem M7 {pins:List (Addr×Obj)}{σ:St}{H:Hp}{s:Shared}{Q:VK}{us:List Value}{vs:List V} (M:Mk X.K C f) (F:av X.prog X.w X.K X.mg X.base CX k f fd ps sp) (hr:mT (k+1) X.A) (hb:Binds X.K fd ps ds) (hd:Vals BU ds)
  (hx:Passes CX X E) (I:Inv X pins σ H s) (r:Vals vs us)
  (h:∀ x dx,H x=none→H dx=none→dx≠x→sp (.ref x::(vs++BU)) (upd (upd H dx (.own x)) x (.ins C dx [])) (fun v H2=>v=.cU∧Q (.ref x) H2) E) :
  wpAny (model X.prog X.w) X.A (call (.ref C) us) (EP X pins σ Q) X.xe s:=by
 have hq:=h (s.heap.objs.size+1) s.heap.objs.size (I.d4.fresh (Nat.le_succ _)) (I.d4.fresh (Nat.le_refl _)) (Nat.ne_of_lt (Nat.lt_succ_self _))
 have I2:=Inv.made (C:=C) I
 have r2:Vals (V.ref (s.heap.objs.size+1)::(vs++BU)) (Value.ref (s.heap.objs.size+1)::(us++ds)):=.cons rfl (r.append hd)
 have hl:(Value.ref (s.heap.objs.size+1)::us++ds).length=ps.length:=by
  have e:=r2.length
  rw[F.len _ _ _ _ hq] at e
  exact e.symm
 refine wpAny_call (M6 (f:=f) I.A1 M.makes M.init (beq_iff_eq.mp M.fn) (codeAny_mono (F.run _ X.stack _ _ ⟨Value.ref (s.heap.objs.size+1)::us,[]⟩ (Value.ref (s.heap.objs.size+1)::(us++ds)) _ _ E (hr.make C us [])
  (I2.Sz.make C us []) (hb _ (Value.ref (s.heap.objs.size+1)::us) I2.A1 hl) r2 hq) fun r s' E6=>?_))
 cases r with
 | error e=>exact hx pins σ _ _ e s' I2 E6
 | ok fl =>
  cases fl with
  | ret u =>
   obtain⟨v,H',I3,rv,ev,q3⟩:=I2.after E6
   subst ev
   exact⟨rv,⟨V.ref (s.heap.objs.size+1),H',I3,rfl,q3⟩⟩
  | next=>exact False.elim E6
  | brk=>exact False.elim E6
  | cont=>exact False.elim E6
theorem ke (M:Mk X.K C f) (F:av X.prog X.w X.K X.mg X.base CX k f fd ps sp) (hr:mT (k+1) X.A) (hg:Gl X x) (hm:X.mg x=some (.ref C)) (hb:Binds X.K fd ps ds) (hd:Vals BU ds) (hx:Passes CX X E)
  (ha:PA X (e::es) t) (OP:(x==("__debug__" : Str))=false:=by decide) (he:starEach (e::es) X.env=(false,eval e X.env)::starEach es X.env:=by rfl) (Cs:(backTo pos (starEach es X.env)).any (·.1)=false:=by rfl) :
  PE X (.Call (.Name x p) (e::es) [] pos) (tMake C sp BU E t):=by
 intro pins s σ H Q I h
 refine wpAny_Call_Name_kw (z7 I hg hm ?_ OP)
 refine PySem.W.callWith_K (h₀:=X.base) I.ok.mod.Qh M.kp (gZ (ha pos pins s σ H _ I h) fun us s1 ⟨vs,H1,I1,r,q⟩=>⟨I1.A1,?_⟩) he Cs
 exact M7 M F hr hb hd hx I1 r q
end
section
variable {X:Cx}{CX:II}{k:Nat}{f C:Addr}{fd:FuncData}{ps ks:List Str}{sp:Sp}{E:XK}{x m:Str}{p pos apos YB:Pos}{e o:Expr}{es:List Expr}{kws:List Keyword}{te ta:TE}{t tk:TA}{nm:Option Str}
structure Vt (K:PySem.W.Frag) (fd:FuncData) (ps ks:List Str) (g:List Value→List Value→List Value) (gV:List V→List V→List V):Prop where
 to:∀ (s:Shared) (us ws:List Value),K.In s.heap→(g us ws).length=ps.length→BindsTo s fd ⟨us,ks.zip ws⟩ (ps.zip (g us ws))
 rel:∀ {vs:List V}{us:List Value}{zs:List V}{ws:List Value},Vals vs us→Vals zs ws→Vals (gV vs zs) (g us ws)
variable {g:List Value→List Value→List Value}{gV:List V→List V→List V}
end
structure aJ (N P:List Str) (sc:Scope):Prop where
 kind:sc.kind=.function
 co:sc.isCoroutine=false
 gen:sc.isGenerator=false
 nd:N.Nodup
 pre:N.take P.length=P
 par:∀ x∈P,sc.names.lookup x=some .local∨sc.names.lookup x=some .cell
 Qv:∀ y∈sc.names,y.2≠.free
theorem E7 {kindOf:Str→Option NameKind}{x:Str}:∀ {binds:List (Str×Value)}{m:Str→Option Value},(∀ v,(x,v)∉binds)→bindL kindOf binds m x=m x
 | [],_,_=>rfl
 | (n,v)::r,m,h=>by
  unfold bindL
  rw[E7 fun w hw=>h w (List.mem_cons_of_mem _ hw)]
  split
  ·have:x≠n:=by rintro rfl;exact h v List.mem_cons_self
   simp [this]
  ·rfl
theorem E8 {kindOf:Str→Option NameKind}{x:Str}:∀ {binds:List (Str×Value)}{m:Str→Option Value},(∀ v,(x,v)∉binds)→bindC kindOf binds m x=m x
 | [],_,_=>rfl
 | (n,v)::r,m,h=>by
  unfold bindC
  rw[E8 fun w hw=>h w (List.mem_cons_of_mem _ hw)]
  split
  ·rfl
  ·have:x≠n:=by rintro rfl;exact h v List.mem_cons_self
   simp [this]
theorem E9 {kindOf:Str→Option NameKind}{x:Str}{v:Value}:∀ {P:List Str}{vs:List Value}{i:Nat}{m:Str→Option Value},P.Nodup→P[i]? = some x→vs[i]? = some v→kindOf x=some .local →
  bindL kindOf (P.zip vs) m x=some v
 | [],_,_,_,_,h,_,_=>by simp at h
 | _::_,[],_,_,_,_,h,_=>by simp at h
 | p::P,w::vs,0,m,nd,h1,h2,hk=>by
  simp at h1 h2;subst h1;subst h2
  show bindL kindOf ((p,w)::P.zip vs) m p=_
  unfold bindL
  rw[E7 fun v hv=>(List.nodup_cons.mp nd).1 (List.of_mem_zip hv).1,if_pos hk]
  simp
 | p::P,w::vs,i+1,m,nd,h1,h2,hk=>by
  show bindL kindOf ((p,w)::P.zip vs) m x=_
  unfold bindL
  exact E9 (i:=i) (List.nodup_cons.mp nd).2 (by simpa using h1) (by simpa using h2) hk
theorem Fb {kindOf:Str→Option NameKind}{x:Str}{v:Value}:∀ {P:List Str}{vs:List Value}{i:Nat}{m:Str→Option Value},P.Nodup→P[i]? = some x→vs[i]? = some v→kindOf x≠some .local →
  bindC kindOf (P.zip vs) m x=some v
 | [],_,_,_,_,h,_,_=>by simp at h
 | _::_,[],_,_,_,_,h,_=>by simp at h
 | p::P,w::vs,0,m,nd,h1,h2,hk=>by
  simp at h1 h2;subst h1;subst h2
  show bindC kindOf ((p,w)::P.zip vs) m p=_
  unfold bindC
  rw[E8 fun v hv=>(List.nodup_cons.mp nd).1 (List.of_mem_zip hv).1,if_neg hk]
  simp
 | p::P,w::vs,i+1,m,nd,h1,h2,hk=>by
  show bindC kindOf ((p,w)::P.zip vs) m x=_
  unfold bindC
  exact Fb (i:=i) (List.nodup_cons.mp nd).2 (by simpa using h1) (by simpa using h2) hk
def start (N:List Str) (vs:List V):St:=vs.map some++List.replicate (N.length-vs.length) none
def cxOf (CX:II) (P:Program) (w:World) (K:PySem.W.Frag) (mg:Str→Option Value) (base:Heap) (N:List Str) (qual:Str) (scope:Scope) (f:Addr) (cd:Value) (A:Around) (outer:List Env) (s:Shared) (H:Hp) (E:XK):Cx where
 prog:=P
 w:=w
 K:=K
 mg:=mg
 base:=base
 A:=A.deeper (envOfC qual scope s.heap.objs.size f cd)
 N:=N
 s₀:=s
 H₀:=H
 env:=envOfC qual scope s.heap.objs.size f cd
 outer:=outer
 stack:=envOfC qual scope s.heap.objs.size f cd::outer
 ex:=[]
 calm:=true
 fn:=fun _=>true
 pn:=[]
 xe:=fun e s'=>wpAny (model P w) (A.deeper (envOfC qual scope s.heap.objs.size f cd)) (leaving (envOfC qual scope s.heap.objs.size f cd) e) (fun _ FD=>CX outer H s E e FD) (fun e' FD=>CX outer H s E e' FD) s'
theorem Hb {sc:Scope}{n:Nat}{x:Str} (h:sc.names.lookup x=some .cell):∃ c,(cellsFrom n sc.names []).lookup x=some c:=by
 have q:=PySem.W.cellsFrom_some sc.names n [] (.inl h)
 exact Option.isSome_iff_exists.mp q
theorem LV {CX:II}{P:Program}{w:World}{K:PySem.W.Frag}{mg:Str→Option Value}{base:Heap}{N ps:List Str}{qual:Str}{scope:Scope}{f:Addr}{cd:Value}{A:Around}{outer:List Env}{s s1:Shared}{H:Hp}{E:XK}{us:List Value}{vs:List V}
  (S:aJ N ps scope) (hd:A.handled=none) (e0:C6 P w K mg base A outer s H) (hl:vs.length=ps.length) (r:Vals vs us)
  (x:InCallC s s.heap.objs.size (bindL (envOfC qual scope s.heap.objs.size f cd).kindOf (ps.zip us) fun _=>none) (cellsFrom (s.heap.objs.size+1) scope.names []) (bindC (envOfC qual scope s.heap.objs.size f cd).kindOf (ps.zip us) fun _=>none) s1) :
  Inv (cxOf CX P w K mg base N qual scope f cd A outer s H E) [] (start N vs) H s1:=by
 have Cs:ps.length≤N.length:=by have:=congrArg List.length S.pre;rw[List.length_take] at this;omega
 obtain⟨h1,tk,rfl,hk⟩:=x.done
 have SA:∀ b:Addr,b∉(cxOf CX P w K mg base N qual scope f cd A outer s H E).ex:=fun b z=>absurd (show b∈([]:List Addr) from z) (by simp)
 refine⟨⟨e0.mod,S.kind,rfl,rfl,Nat.le_refl _,fun y z c h1 h2=>?_,fun y hy=>?_,fun y c _ h=>?_,fun _=>hd,Around.frames_deeper e0.frames,.inr ⟨rfl,rfl⟩,fun b z=>absurd z (SA b),e0.bs,e0.KZ,fun b _ _=>SA b,fun b z=>absurd z (SA b),e0.uV,e0.Oz⟩,
  rfl,e0.bare,Un.kept hk,⟨_,x.toInCall.ns,fun i y v h1 h2 h3=>?_⟩,fun y c h=>⟨_,x.cell y c h⟩,e0.d4.fresh (Nat.le_refl _),fun y c h=>?_,fun p hp=>absurd (show p∈([]:List (Addr×Obj)) from hp) (by simp),e0.d4.kept hk,?_⟩
 ·exact name_of_addr x.apart (PySem.mem_of_lookup h1) (PySem.mem_of_lookup h2)
 ·have hy:scope.names.lookup y=some .cell∨scope.names.lookup y=some .free:=hy
  rcases hy with hy | hy
  ·exact Hb hy
  ·exact absurd rfl (S.Qv _ (PySem.mem_of_lookup hy))
 ·exact Nat.le_of_lt (x.above y c (PySem.mem_of_lookup h))
 ·have hi:i<vs.length:=by
   unfold start at h2
   by_cases hi:i<vs.length
   ·exact hi
   ·rw[List.getElem?_append_right (by simpa using hi)] at h2
    rw[List.getElem?_replicate] at h2
    split at h2<;>cases h2
  have ha:vs[i]? = some v:=by
   unfold start at h2
   rw[List.getElem?_append_left (by simpa using hi),List.getElem?_map] at h2
   cases e:vs[i]? with
   | none=>rw[e] at h2;cases h2
   | some a=>rw[e] at h2;cases h2;rfl
  obtain⟨u,hu,rv⟩:=r.get ha
  have hp:ps[i]? = some y:=by
   rw[←S.pre,List.getElem?_take_of_lt (by omega)];exact h1
  have Xm:ps.Nodup:=by rw[←S.pre];exact S.nd.sublist (List.take_sublist _ _)
  refine⟨u,rv,?_⟩
  rcases S.par y (List.mem_of_getElem? hp) with k | k
  ·exact .inl ⟨k,E9 Xm hp hu k⟩
  ·obtain⟨c,e⟩:=Hb (n:=s.heap.objs.size+1) k
   refine .inr ⟨.inl k,c,e,?_⟩
   have q:=x.cell y c e
   rw[Fb Xm hp hu (by show scope.names.lookup y≠_;rw[k];decide)] at q
   exact q
 ·exact e0.d4.fresh (Nat.le_of_lt (x.above y c (PySem.mem_of_lookup h)))
 ·unfold start
  show _=N.length
  rw[List.length_append,List.length_map,List.length_replicate]
  omega
theorem Pq {CX:II}{P:Program}{w:World}{K:PySem.W.Frag}{mg:Str→Option Value}{base:Heap}{k:Nat}{f:Addr}{name qual:Str}{params:Arguments}{body:List Stmt}{scope:Scope}{dV kV doc pm gJ ct oc:Value}{an od:Option Addr}
  {LW:Array (Option Value)}{N ps:List Str}{sp:Sp} (lk:K.lookup f=some ⟨oc,od,.func (PySem.W.fnOf name qual params body scope dV kV doc pm an gJ ct),LW⟩) (LK:PySem.W.codeIn K gJ qual=true) (S:aJ N ps scope)
  (len:∀ vs H Q E,sp vs H Q E→vs.length=ps.length)
  (Hc:∀ (A:Around) (outer:List Env) (s:Shared) (H:Hp) (vs:List V) (Q:VK) (E:XK),mT k (A.deeper (envOfC qual scope s.heap.objs.size f gJ))→sp vs H Q E →
   ∃ t,K0 (cxOf CX P w K mg base N qual scope f gJ A outer s H E) body t∧t { nx:=fun _ H'=>Q .cU H',rt:=Q } (start N vs) H) :
  av P w K mg base CX (k+1) f (PySem.W.fnOf name qual params body scope dV kV doc pm an gJ ct) ps sp:=by
 refine⟨len,fun A outer s H args us vs Q E hr e0 hb r OA=>?_⟩
 have hl:=len _ _ _ _ OA
 have KX:K.In s.heap:=e0.mod.Qh.keeps fun b o e=>(e0.bs b o e).1
 have lim:s.heap.NoLimit:=e0.mod.nolimit.keeps fun b o e=>(e0.bs b o e).1
 have SD:∀ y∈ps.zip us,scope.names.lookup y.1=some .local∨(scope.names.lookup y.1=some .cell∧((cellsFrom (s.heap.objs.size+1) scope.names []).lookup y.1).isSome=true):=fun⟨n,v⟩ hy=>by
  rcases S.par n (List.of_mem_zip hy).1 with q | q
  ·exact .inl q
  ·exact .inr ⟨q,PySem.W.cellsFrom_some _ _ _ (.inl q)⟩
 refine codeAny_call_function hr.depth (KX _ _ lk) rfl S.co S.gen rfl (PySem.W.codeRec_of KX LK) (hb _ _ _ _ ?_)
 refine wpAny_newFunctionEnv_cells S.kind SD fun env he s1 x=>?_
 subst he
 refine⟨lim.keeps x.toInCall.keep,codeAny_func ?_⟩
 obtain⟨t,ht,hq⟩:=Hc A outer s H vs Q E (hr.deeper _) OA
 have I:Inv (cxOf CX P w K mg base N qual scope f gJ A outer s H E) [] (start N vs) H s1:=LV S hr.hd e0 hl r x
 refine wpAny_mono (ht [] s1 (start N vs) H _ I hq) (fun fl s' hs=>?_) fun e s' hs=>hs
 have fin:∀ {σ':St}{H':Hp}{v:V}{u:Value},Inv (cxOf CX P w K mg base N qual scope f gJ A outer s H E) [] σ' H' s'→RelV v u→Q v H'→CE outer P w H s Q u s' :=
  fun {σ' H' v u} J rv q=>⟨v,H',J.os,J.bare,J.base,J.d4,rv,q⟩
 cases fl with
 | ret u =>
  obtain⟨v,σ',H',J,rv,q⟩:=hs
  exact fin J rv q
 | next =>
  obtain⟨σ',H',J,q⟩:=hs
  exact fin (v:=V.cU) (u:=Value.none) J rfl q
 | brk =>
  obtain⟨_,_,_,q⟩:=hs
  exact False.elim q
 | cont =>
  obtain⟨_,_,_,q⟩:=hs
  exact False.elim q
end L2
namespace L2
open PySem PySem.Spec PyProof.Rows
section
variable {X:Cx}{x:Str}{p pos:Pos}{e:Expr}{es:List Expr}{t:TA}{id T:String}{r:List V→Hp→VK→Prop}
def tCB (r:List V→Hp→VK→Prop) (t:TA):TE:=fun σ H Q=>t σ H fun vs H1=>r vs H1 Q
theorem aS (hc:gH X (.builtin id) r) (hg:Gl X x) (hm:X.mg x=none) (hv:bootBuiltins x=some (.builtin id)) (ha:PA X (e::es) t) (hn:x ≠ "__name__" := by decide) (OP:(x==("__debug__" : Str))=false:=by decide)
  (he:starEach (e::es) X.env=(false,eval e X.env)::starEach es X.env:=by rfl) (Cs:(backTo pos (starEach es X.env)).any (·.1)=false:=by rfl):PE X (.Call (.Name x p) (e::es) [] pos) (tCB r t):=by
 intro pins s σ H Q I h
 refine wpAny_Call_Name_kw (y1 I hg hm hv ?_ hn OP)
 exact PyProof.Rows.callWith_builtin1 (gZ (ha pos pins s σ H _ I h) fun us s1 ⟨vs,H1,I1,r1,q1⟩=>hc pins s1 σ H1 vs us Q I1 r1 q1) he Cs
theorem fw (hc:gH X (.type T) r) (hg:Gl X x) (hm:X.mg x=none) (hv:bootBuiltins x=some (.type T)) (ha:PA X (e::es) t) (hn:x ≠ "__name__" := by decide) (OP:(x==("__debug__" : Str))=false:=by decide)
  (he:starEach (e::es) X.env=(false,eval e X.env)::starEach es X.env:=by rfl) (Cs:(backTo pos (starEach es X.env)).any (·.1)=false:=by rfl):PE X (.Call (.Name x p) (e::es) [] pos) (tCB r t):=by
 intro pins s σ H Q I h
 refine wpAny_Call_Name_kw (y1 I hg hm hv ?_ hn OP)
 exact PyProof.Rows.callWith_type1 (gZ (ha pos pins s σ H _ I h) fun us s1 ⟨vs,H1,I1,r1,q1⟩=>hc pins s1 σ H1 vs us Q I1 r1 q1) he Cs
end
end L2
namespace HT
open PySem PyProof.Rows
section
open PySem.SeqAt
open PySem.AutoSeq1 (wpAny_loadPart')
open PySem.MeetsSeq PySem.MeetsSeq2 PySem.MeetsSeq3
end
section
variable {prog:Program}{w:World}{A:Around}{E:Value→Shared→Prop}{s:Shared}
theorem OQ {t b:Addr}{vs ws:List Value}{Q:Value→Shared→Prop} (ht:IsTup s.heap t vs.toArray) (hb:IsTup s.heap b ws.toArray) (hv:vs≠[])
  (h1:ws=[]→Q (.ref t) s) (h2:ws≠[]→Q (.ref s.heap.objs.size) { s with heap:=s.heap.push { cls:=.type "tuple",data:=.seq (vs++ws).toArray } })
  (hsz:vs.length+ws.length≤sizeLine):wpAny (model prog w) A (binaryOp .Add (.ref t) (.ref b)) Q E s:=by
 obtain⟨⟨cls,dd,data,sl⟩,ho,hc,n,hd⟩:=id ht
 obtain⟨⟨YC,Xn,data2,UC⟩,UD,Xo,n2,hd2⟩:=id hb
 simp only at hc hd Xo hd2
 subst hc hd Xo hd2
 have e:vs.toArray++ws.toArray=(vs++ws).toArray:=by simp
 by_cases hw:ws=[]
 ·exact concat_meets ⟨_,ho,rfl⟩ ⟨_,UD,rfl⟩ noFill_tuple_add seq_tuple_add PySem.F.slot_tuple_add PySem.F.entry_tuple_add (PySem.F.args_tuple_add_2 _ _)
   (tuple_addW1 t b vs.toArray ws.toArray n n2 dd Xn sl UC (by simpa using hv) (by simp [hw])) ⟨ho,UD,h1 hw⟩
 ·refine concat_meets ⟨_,ho,rfl⟩ ⟨_,UD,rfl⟩ noFill_tuple_add seq_tuple_add PySem.F.slot_tuple_add PySem.F.entry_tuple_add (PySem.F.args_tuple_add_2 _ _)
   (tuple_addW2 t b vs.toArray ws.toArray n n2 dd Xn sl UC (by simpa using hv) (by simpa using hw) (by rw[List.size_toArray,List.size_toArray];exact hsz)) ⟨ho,UD,?_⟩
  rw[e]
  exact h2 hw
def kr (n d:Nat):Option Int→Nat
 | none=>d
 | some v=>if v<0 then (v+(n:Int)).toNat else min v.toNat n
theorem C7 (n d:Nat):kr n d none=d:=rfl
theorem yw (n d k:Nat):kr n d (some (k:Int))=min k n:=by
 show (if (k:Int)<0 then ((k:Int)+(n:Int)).toNat else min (k:Int).toNat n)=min k n
 rw[if_neg (by omega),Int.toNat_natCast]
theorem Qw (n d:Nat) (hd:d≤n) (o:Option Int):kr n d o≤n:=by
 cases o with
 | none=>exact hd
 | some v =>
  show (if v<0 then (v+(n:Int)).toNat else min v.toNat n)≤n
  by_cases hv:v<0
  ·rw[if_pos hv];omega
  ·rw[if_neg hv];exact Nat.min_le_right _ _
theorem K8 (v:Int) (n d:Nat):(if v<0 then max (v+(n:Int)) 0 else min v (n:Int))=((kr n d (some v):Nat):Int):=by
 show (if v<0 then max (v+(n:Int)) 0 else min v (n:Int))=(((if v<0 then (v+(n:Int)).toNat else min v.toNat n):Nat):Int)
 by_cases hv:v<0
 ·simp only[if_pos hv];omega
 ·simp only[if_neg hv];omega
theorem Jc (lo hi:Option Int) (n:Nat):Builtin.Slice.sliceAdjust lo hi 1 (n:Int)=(((kr n 0 lo:Nat):Int),((kr n n hi:Nat):Int)):=by
 have h1:¬ ((1:Int)<0):=by omega
 unfold Builtin.Slice.sliceAdjust
 simp only[h1,if_false]
 refine Prod.ext ?_ ?_
 ·cases lo with
  | none=>rfl
  | some v=>exact K8 v n 0
 ·cases hi with
  | none=>rfl
  | some v=>exact K8 v n n
theorem Jd (i j:Nat):Builtin.Slice.slicePlaces (i:Int) (j:Int) 1=j-i:=by
 unfold Builtin.Slice.slicePlaces
 have h1:(1:Int)>0:=by omega
 simp only[h1,if_true,Int.ediv_one]
 split<;>omega
theorem C8 {v:Value}{o:Option Int}{Q:Option Int→Shared→Prop} (p:IsPart v o) (h:Q o s):wpAny (model prog w) A (Builtin.Slice.slicePartIndex v) Q E s:=by
 cases p with
 | none=>exact slicePart_none h
 | int i t=>exact slicePart_int h
theorem uG {sl:Addr}{vl vu:Value}{lo hi:Option Int}{n:Nat}{Q:Int×Int×Nat→Shared→Prop} (hs:s.heap.IsSliceOf sl vl vu .none) (pl:IsPart vl lo) (pu:IsPart vu hi)
  (h:Q (((kr n 0 lo:Nat):Int),1,kr n n hi-kr n 0 lo) s):wpAny (model prog w) A (Builtin.Slice.sliceApplied (.ref sl) (pure (n:Int))) Q E s:=by
 obtain⟨os,Qx,UE,SE⟩:=id hs
 unfold Builtin.Slice.sliceApplied Builtin.Slice.sliceFields
 refine wpAny_bind (wpAny_bind (wpAny_field Qx SE (x:=vl) rfl (wpAny_bind (wpAny_field Qx SE (x:=vu) rfl (wpAny_bind (wpAny_field Qx SE (x:=.none) rfl (wpAny_pure ?_)))))))
 refine wpAny_bind (slicePart_none ?_)
 show wpAny _ _ (if ((1:Int)==0)=true then _ else _) _ _ s
 rw[if_neg (by decide)]
 refine wpAny_bind (C8 pl (wpAny_bind (C8 pu (wpAny_bind (wpAny_pure ?_)))))
 show wpAny _ _ (match Builtin.Slice.sliceAdjust lo hi 1 (n:Int) with | (lo,hi)=>pure (lo,(1:Int),Builtin.Slice.slicePlaces lo hi 1)) _ _ s
 rw[Jc lo hi n]
 show wpAny _ _ (pure (((kr n 0 lo:Nat):Int),(1:Int),Builtin.Slice.slicePlaces ((kr n 0 lo:Nat):Int) ((kr n n hi:Nat):Int) 1)) _ _ s
 rw[Jd]
 exact wpAny_pure h
theorem M8 (xs:Array Value) (i k:Nat):((List.range k).filterMap fun (m:Nat)=>xs[((i:Int)+(m:Int)*1).toNat]?).toArray=((xs.toList.drop i).take k).toArray:=by
 have e:(fun (m:Nat)=>xs[((i:Int)+(m:Int)*1).toNat]?)=fun m=>xs[i+m]? := by
  funext m
  have:((i:Int)+(m:Int)*1).toNat=i+m:=by omega
  rw[this]
 rw[e]
 have:=pick_run xs i k
 rw[List.filterMap_map] at this
 have e2:((fun x=>xs[x]?) ∘ fun x=>i+x)=fun m=>xs[i+m]? := rfl
 rw[e2] at this
 rw[this]
theorem Ae {t sl:Addr}{items:Array Value}{vl vu:Value}{lo hi:Option Int}{Q:Value→Shared→Prop} (ht:IsTup s.heap t items) (hs:s.heap.IsSliceOf sl vl vu .none) (pl:IsPart vl lo) (pu:IsPart vu hi)
  (hw:¬ (kr items.size 0 lo=0∧kr items.size items.size hi=items.size))
  (h:Q (.ref s.heap.objs.size) { s with heap:=s.heap.push { cls:=.type "tuple",data:=.seq ((items.toList.drop (kr items.size 0 lo)).take (kr items.size items.size hi-kr items.size 0 lo)).toArray } })
  (hsz:items.size≤sizeLine):wpAny (model prog w) A (getItem (.ref t) (.ref sl)) Q E s:=by
 have K9:sizeOk (.seq ((items.toList.drop (kr items.size 0 lo)).take (kr items.size items.size hi-kr items.size 0 lo)).toArray):=by
  show ((items.toList.drop (kr items.size 0 lo)).take (kr items.size items.size hi-kr items.size 0 lo)).toArray.size≤sizeLine
  rw[List.size_toArray,List.length_take,List.length_drop,Array.length_toList]
  omega
 have hj:kr items.size items.size hi≤items.size:=Qw _ _ (Nat.le_refl _) hi
 obtain⟨os,Qx,UE,SE⟩:=id hs
 have Vu:s.TypeIs (.ref sl) "slice" := ⟨os,Qx,UE⟩
 unfold getItem
 try with_reducible refine wpAny_holding ?_
 first | refine wpAny_bind (wpAny_pure ?_) | skip
 refine wpAny_bind (wpAny_sequenceKey ht.typeIs (by decide) ?_)
 refine wpAny_bind (wpAny_callSpecial?_slot (name:=Str.ofString "__getitem__") ht.typeIs PyProof.Rows.slot_tuple_getitem
  (wpAny_call_entry PyProof.Rows.slot_tuple_getitem ht.typeIs entry_tuple_getitem ?_ (args_tuple_getitem _ _)))
 show wpAny _ _ (Builtin.Tuple.tupleItemsOf (.ref t) >>= _) _ _ s
 refine wpAny_bind (tupleItemsOf_ ht ?_)
 refine wpAny_bind (wpAny_typeOf Vu ?_)
 rw[if_pos (by decide)]
 refine wpAny_bind (uG hs pl pu ?_)
 have YD:¬ ((((kr items.size 0 lo:Nat):Int)==0&&(1:Int)==1&&(kr items.size items.size hi-kr items.size 0 lo)==items.size)=true):=by
  intro q
  rw[Bool.and_eq_true,Bool.and_eq_true] at q
  have q1:((kr items.size 0 lo:Nat):Int)=0:=eq_of_beq q.1.1
  have q2:kr items.size items.size hi-kr items.size 0 lo=items.size:=eq_of_beq q.2
  exact hw ⟨by omega,by omega⟩
 show wpAny _ _ (if (((kr items.size 0 lo:Nat):Int)==0&&(1:Int)==1&&(kr items.size items.size hi-kr items.size 0 lo)==items.size)=true then _ else _) _ _ s
 rw[if_neg YD,M8]
 first
  | exact wpAny_bind (m:=Builtin.Tuple.tupleExact _) (wpAny_newObj_type (wpAny_pure ⟨_,rfl,wpAny_pure h⟩) K9)
  | exact wpAny_bind (m:=Builtin.Tuple.tupleExact _) (wpAny_newObj_type (wpAny_bind (wpAny_pure (wpAny_pure ⟨_,rfl,wpAny_pure h⟩))) K9)
  | exact wpAny_bind (wpAny_bind (m:=Builtin.Tuple.tupleExact _) (wpAny_newObj_type (wpAny_pure (wpAny_pure ⟨_,rfl,wpAny_pure h⟩)) K9))
  | exact wpAny_bind (wpAny_bind (m:=Builtin.Tuple.tupleExact _) (wpAny_newObj_type (wpAny_pure ⟨_,rfl,wpAny_pure h⟩) K9))
end
end HT
namespace L2
open PySem PySem.Spec PyProof.Rows
abbrev TO:=St→Hp→(Option Int→Hp→Prop)→Prop
def PO (X:Cx) (e:Option Expr) (t:TO):Prop :=
 ∀ (pins:List (Addr×Obj)) (s:Shared) (σ:St) (H:Hp) (Q:Option Int→Hp→Prop),Inv X pins σ H s→t σ H Q →
  wpAny (model X.prog X.w) X.A (evalPart e X.env) (fun u s'=>∃ o H',Inv X pins σ H' s'∧IsPart u o∧Q o H') X.xe s
def tNoPart:TO:=fun _ H Q=>Q none H
def tPart (t:TE):TO:=fun σ H Q=>t σ H fun x H1=>∃ i,x=.int i∧Q (some i) H1
section
variable {X:Cx}{e:Expr}{te:TE}{lo hi:Option Expr}{tl th:TO}{pos p2:Pos}
theorem pI:PO X none tNoPart:=by
 intro pins s σ H Q I h
 rw[evalPart_none]
 exact wpAny_pure ⟨none,H,I,.none,h⟩
theorem mH (h:PE X e te):PO X (some e) (tPart te):=by
 intro pins s σ H Q I hw
 rw[evalPart_some]
 refine gZ (h pins s σ H _ I hw) fun u s1 ⟨x,H1,I1,r1,q1⟩=>?_
 obtain⟨i,rfl,q⟩:=q1
 obtain⟨t,rfl⟩:=r1
 exact⟨some i,H1,I1,.int i t,q⟩
def Pr (X:Cx) (r:V→Option Int→Option Int→Hp→VK→Prop):Prop :=
 ∀ (pins:List (Addr×Obj)) (s:Shared) (σ:St) (H:Hp) (x:V) (v vl vu:Value) (lo hi:Option Int) (sl:Addr) (Q:VK),Inv X pins σ H s→RelV x v→s.heap.IsSliceOf sl vl vu .none→IsPart vl lo→IsPart vu hi→r x lo hi H Q →
  ∃ T id,typeLookup (.type T) "__getitem__" = pure (some (.builtin id))∧s.TypeIs v T∧wpAny (model X.prog X.w) X.A (getItem v (.ref sl)) (EP X pins σ Q) X.xe s
theorem Pr.or {r r':V→Option Int→Option Int→Hp→VK→Prop} (h:Pr X r) (h':Pr X r'):Pr X (fun x lo hi H Q=>r x lo hi H Q∨r' x lo hi H Q):=by
 intro pins s σ H x v vl vu lo hi sl Q I rx hs pl pu q
 rcases q with q | q
 ·exact h pins s σ H x v vl vu lo hi sl Q I rx hs pl pu q
 ·exact h' pins s σ H x v vl vu lo hi sl Q I rx hs pl pu q
def tSl (r:V→Option Int→Option Int→Hp→VK→Prop) (te:TE) (tl th:TO):TE:=fun σ H Q=>te σ H fun x H1=>tl σ H1 fun l H2=>th σ H2 fun u H3=>r x l u H3 Q
theorem ky {r:V→Option Int→Option Int→Hp→VK→Prop} (hr:Pr X r) (he:PE X e te) (hl:PO X lo tl) (hu:PO X hi th):PE X (.Subscript e (.Slice lo hi none p2) pos) (tSl r te tl th):=by
 intro pins s σ H Q I h
 refine Subscript_ (gZ (he pins s σ H _ I h) fun v s1 ⟨x,H1,I1,r1,q1⟩=>?_)
 refine wpAny_Slice (gZ (hl pins s1 σ H1 _ I1 q1) fun vl s2 ⟨l,H2,I2,pl,q2⟩=>gZ (hu pins s2 σ H2 _ I2 q2) fun vu s3 ⟨u,H3,I3,pu,q3⟩=>?_)
 rw[evalPart_none]
 refine wpAny_pure ?_
 have I4:Inv X pins σ H3 { s3 with heap:=s3.heap.push { cls:=.type "slice",data:=.fields #[vl,vu,.none] } }:=I3.kept (t':=s3.toks) fun b ob q=>Heap.get?_push_of_some _ q
 obtain⟨T,id,hT,ht,hg⟩:=hr pins { s3 with heap:=s3.heap.push { cls:=.type "slice",data:=.fields #[vl,vu,.none] } } σ H3 x v vl vu l u s3.heap.objs.size Q I4 r1 (Heap.IsSliceOf.new ..) pl pu q3
 show wpAny (model X.prog X.w) X.A (subscriptTail e (.Slice lo hi none p2) v (.ref s3.heap.objs.size)) (EP X pins σ Q) X.xe { s3 with heap:=s3.heap.push { cls:=.type "slice",data:=.fields #[vl,vu,.none] } }
 exact tail_any (ops:=[.ref s3.heap.objs.size,v]) ht hT hg (by with_unfolding_all rfl)
def tP (xs:List V) (lo hi:Option Int):List V:=(xs.drop (HT.kr xs.length 0 lo)).take (HT.kr xs.length xs.length hi-HT.kr xs.length 0 lo)
theorem BV (xs:List V) (lo hi:Option Int):(tP xs lo hi).length≤xs.length:=by
 unfold tP
 rw[List.length_take,List.length_drop]
 omega
def rSlT (K:PySem.W.Frag):V→Option Int→Option Int→Hp→VK→Prop:=fun x lo hi H Q=>∃ a xs,x=.ref a∧df K H a xs ∧
 ¬ (HT.kr xs.length 0 lo=0∧HT.kr xs.length xs.length hi=xs.length)∧∀ p,H p=none→Q (.ref p) (upd H p (.tup (tP xs lo hi)))
theorem Qy:Pr X (rSlT X.K):=by
 intro pins s σ H x v vl vu lo hi sl Q I rx hs pl pu h
 obtain⟨a,xs,rfl,hx,hw,q⟩:=h
 cases rx
 obtain⟨bF,r,ht,hz⟩:=I.tuple hx
 have hlen:bF.toArray.size=xs.length:=by rw[List.size_toArray];exact r.length.symm
 refine⟨"tuple",_,PyProof.Rows.slot_tuple_getitem.lookup,ht.typeIs,?_⟩
 refine HT.Ae ht hs pl pu (by rw[hlen];exact hw) ?_ (by rw[hlen];exact hz)
 rw[hlen]
 refine⟨.ref s.heap.objs.size,_,I.laid (t':=s.toks) (o:=.tup (tP xs lo hi)) (fun b ob q=>Heap.get?_push_of_some _ q) (Nat.le_refl _) ?_,rfl,q _ (I.d4.fresh (Nat.le_refl _))⟩
 exact⟨Nat.le_trans (BV xs lo hi) hz,_,(r.drop (HT.kr xs.length 0 lo)).take (HT.kr xs.length xs.length hi-HT.kr xs.length 0 lo),IsTup.new _ _⟩
def rCatT (K:PySem.W.Frag):R2:=fun x y H Q=>∃ a b xs ys,x=.ref a∧y=.ref b∧df K H a xs∧df K H b ys∧xs≠[]∧xs.length+ys.length≤sizeLine ∧
 (ys=[]→Q (.ref a) H)∧(ys≠[]→∀ p,H p=none→Q (.ref p) (upd H p (.tup (xs++ys))))
theorem Vals.FE {xs:List V}{us:List Value} (r:Vals xs us):us=[]↔xs=[]:=by
 cases r with
 | nil=>simp
 | cons _ _=>simp
theorem CO:y2 X (binaryOp .Add) (rCatT X.K):=by
 intro pins s σ H x y v u Q I rx ry h
 obtain⟨a,b,xs,ys,rfl,rfl,ha,hb,hx,hz,q1,q2⟩:=h
 cases rx
 cases ry
 obtain⟨bF,r1,p1,_⟩:=I.tuple ha
 obtain⟨y4,r2,p2,_⟩:=I.tuple hb
 refine HT.OQ p1 p2 (fun z=>hx (r1.FE.mp z)) (fun z=>⟨.ref a,H,I,rfl,q1 (r2.FE.mp z)⟩) (fun z=>?_) (by rw[←r1.length,←r2.length];exact hz)
 refine⟨.ref s.heap.objs.size,_,I.laid (t':=s.toks) (o:=.tup (xs++ys)) (fun b ob q=>Heap.get?_push_of_some _ q) (Nat.le_refl _) ?_,rfl,q2 (fun w=>z (r2.FE.mpr w)) _ (I.d4.fresh (Nat.le_refl _))⟩
 exact⟨by rw[List.length_append];exact hz,_,r1.append r2,IsTup.new _ _⟩
end
end L2
namespace L2
open PySem PySem.Spec PyProof.Rows
def LX (n:Nat) (i:Int):Option Nat:=if 0≤i then (if i<n then some i.toNat else none) else if -(n:Int)≤i then some (i+n).toNat else none
def qr {α:Type} (xs:List α) (i:Int):Option α:=(LX xs.length i).bind fun j=>xs[j]?
theorem La {n:Nat}{i:Int}{j:Nat} (h:LX n i=some j):seqIndex? i n=some j∧j<n ∧ -(n:Int)≤i∧i<n:=by
 unfold LX at h
 by_cases h0:0≤i
 ·rw[if_pos h0] at h
  by_cases h1:i<n
  ·rw[if_pos h1] at h
   have e:i.toNat=j:=Option.some.inj h
   exact⟨by rw[seqIndex_of h0 h1,e],by omega,by omega,h1⟩
  ·rw[if_neg h1] at h;cases h
 ·rw[if_neg h0] at h
  by_cases h1 : -(n:Int)≤i
  ·rw[if_pos h1] at h
   have e:(i+n).toNat=j:=Option.some.inj h
   exact⟨by rw[seqIndex_neg (by omega) h1,e],by omega,h1,by omega⟩
  ·rw[if_neg h1] at h;cases h
theorem FF {α:Type}{xs:List α}{i:Int}{v:α} (h:qr xs i=some v):∃ j,seqIndex? i xs.length=some j∧xs[j]? = some v∧j<xs.length ∧ -(xs.length:Int)≤i∧i<xs.length:=by
 unfold qr at h
 cases e:LX xs.length i with
 | none=>rw[e] at h;cases h
 | some j =>
  rw[e] at h
  obtain⟨h1,h2,h3,h4⟩:=La e
  exact⟨j,h1,h,h2,h3,h4⟩
theorem bT {α:Type}{xs:List α}{j:Nat}{v:α} (h:xs[j]? = some v):qr xs (j:Int)=some v:=by
 have hj:j<xs.length:=(List.getElem?_eq_some_iff.mp h).1
 have e:LX xs.length (j:Int)=some j:=by
  unfold LX
  rw[if_pos (by omega),if_pos (by omega)];simp
 unfold qr;rw[e];exact h
theorem Hd {α:Type} (xs:List α) (v:α):qr (xs++[v]) (-1)=some v:=by
 have hl:(xs++[v]).length=xs.length+1:=by simp
 have e:LX (xs++[v]).length (-1)=some xs.length:=by
  unfold LX
  rw[hl,if_neg (by decide),if_pos (by omega)]
  congr 1
  omega
 unfold qr
 rw[e]
 show (xs++[v])[xs.length]? = some v
 simp
def OR (b:Expr):Prop:=∀ o i,subscripted b false o i=operate [o,i] (getItem o i)
def GX (X:Cx) (r:R2):Prop :=
 ∀ (value slice:Expr) (pins:List (Addr×Obj)) (s:Shared) (σ:St) (H:Hp) (x y:V) (v u:Value) (Q:VK),Inv X pins σ H s→RelV x v→RelV y u→r x y H Q →
  subscripted slice false v u=operate [v,u] (getItem v u)→wpAny (model X.prog X.w) X.A (subscriptTail value slice v u) (EP X pins σ Q) X.xe s
def RN (X:Cx) (id:String) (r:V→List V→Hp→VK→Prop):Prop :=
 ∀ (pins:List (Addr×Obj)) (s:Shared) (σ:St) (H:Hp) (x:V) (xs:List V) (v:Value) (us:List Value) (Q:VK),Inv X pins σ H s→RelV x v→Vals xs us→r x xs H Q →
  wpAny (model X.prog X.w) X.A (call (.builtin id) (v::us)) (EP X pins σ Q) X.xe s
section
variable {X:Cx}{a b:Expr}{ta tb:TE}{pos:Pos}
theorem GX.or {r r':R2} (h:GX X r) (h':GX X r'):GX X (fun x y H Q=>r x y H Q∨r' x y H Q):=by
 intro value slice pins s σ H x y v u Q I rx ry q hs
 rcases q with q | q
 ·exact h value slice pins s σ H x y v u Q I rx ry q hs
 ·exact h' value slice pins s σ H x y v u Q I rx ry q hs
theorem RN.or {id:String}{r r':V→List V→Hp→VK→Prop} (h:RN X id r) (h':RN X id r'):RN X id (fun x xs H Q=>r x xs H Q∨r' x xs H Q):=by
 intro pins s σ H x xs v us Q I rx rs q
 rcases q with q | q
 ·exact h pins s σ H x xs v us Q I rx rs q
 ·exact h' pins s σ H x xs v us Q I rx rs q
theorem bo {r:R2} (hr:GX X r) (ha:PE X a ta) (hb:PE X b tb) (hs:OR b):PE X (.Subscript a b pos) (tOp r ta tb):=by
 intro pins s σ H Q I h
 exact Subscript_ (Qr ha hb I h fun v u s2 x y H2 I2 rx ry q=>hr a b pins s2 σ H2 x y v u Q I2 rx ry q (hs _ _))
def rIxL (K:PySem.W.Frag):R2:=fun x y H Q=>∃ p xs i v,x=.ref p∧y=.int i∧bA K H p xs∧qr xs i=some v∧Q v H
def rIxT (K:PySem.W.Frag):R2:=fun x y H Q=>∃ p xs i v,x=.ref p∧y=.int i∧df K H p xs∧qr xs i=some v∧Q v H
def rIxS:R2:=fun x y H Q=>∃ z i c,x=.str z∧y=.int i∧z.length≤sizeLine∧qr z.cps.toList i=some c∧Q (.str ⟨#[c]⟩) H
theorem cx:GX X (rIxL X.K):=by
 intro value slice pins s σ H x y v u Q I rx ry h hs
 obtain⟨p,xs,i,z,rfl,rfl,hq,he,q⟩:=h
 cases rx
 obtain⟨t,rfl⟩:=ry
 obtain⟨bF,r,pl,hz⟩:=I.list hq
 obtain⟨j,h1,h2,h3,h4,h5⟩:=FF he
 obtain⟨w,ew,Vv⟩:=r.get h2
 have hl:=r.length
 have hn:=y3
 have fin:EP X pins σ Q w s:=⟨z,H,I,Vv,q⟩
 by_cases h0:0≤i
 ·have hj:i.toNat=j:=by
   rw[seqIndex_of h0 h5] at h1
   exact Option.some.inj h1
  exact item_listR pl.isList h0 (by omega) (by rw[hj];simpa using ew) fin hs
 ·have hj:(i+(bF.toArray.size:Int)).toNat=j:=by
   rw[seqIndex_neg (by omega) h4] at h1
   rw[List.size_toArray,←hl]
   exact Option.some.inj h1
  exact subscriptTail_builtinR (x:=w) pl.isList.typeIs slot_list_getitem.lookup
   (wpAny_getItem_list_neg (Q:=fun r s'=>r=w∧EP X pins σ Q r s') pl.isList (by omega) (by rw[List.size_toArray]<;>omega) (by omega) (by rw[hj];simpa using ew) ⟨rfl,fin⟩) hs
theorem cT:GX X (rIxT X.K):=by
 intro value slice pins s σ H x y v u Q I rx ry h hs
 obtain⟨p,xs,i,z,rfl,rfl,hq,he,q⟩:=h
 cases rx
 obtain⟨t,rfl⟩:=ry
 obtain⟨bF,r,pl,hz⟩:=I.tuple hq
 obtain⟨j,h1,h2,h3,h4,h5⟩:=FF he
 obtain⟨w,ew,Vv⟩:=r.get h2
 have hl:=r.length
 have hn:=y3
 have fin:EP X pins σ Q w s:=⟨z,H,I,Vv,q⟩
 exact subscriptTail_builtinR (x:=w) pl.typeIs slot_tuple_getitem.lookup
  (getItem_tuple (j:=j) (Q:=fun r s'=>r=w∧EP X pins σ Q r s') pl (by omega) (by omega) (by rw[List.size_toArray,←hl];exact h1) (by simpa using ew) ⟨rfl,fin⟩) hs
theorem FG:GX X rIxS:=by
 intro value slice pins s σ H x y v u Q I rx ry h hs
 obtain⟨z,i,c,rfl,rfl,hz,he,q⟩:=h
 obtain⟨t,rfl⟩:=rx
 obtain⟨t',rfl⟩:=ry
 obtain⟨j,h1,h2,h3,h4,h5⟩:=FF he
 have hl:z.cps.toList.length=z.length:=by simp [Str.length]
 rw[hl] at h1 h4 h5
 have hn:=y3
 exact tail_any (typeIs_str s z t) slot_str_getitem.lookup (getItem_str (c:=c) (by
  have e1:decide (i < -(2 ^ 63:Int))=false:=decide_eq_false (by omega)
  have e2:decide (i≥2 ^ 63)=false:=decide_eq_false (by omega)
  rw[e1,e2,Bool.or_false]) (by rw[h1];simpa using h2) ⟨.str ⟨#[c]⟩,H,I.tok _,⟨_,rfl⟩,q⟩) hs
def Xp (K:PySem.W.Frag):R2:=fun x y H Q=>rIxL K x y H Q∨rIxT K x y H Q∨rIxS x y H Q
theorem M9:GX X (Xp X.K):=cx.or (cT.or FG)
theorem Je (bF:List Value) (n j:Nat) (u:Value):Obj.mapSeq (·.setIfInBounds j u) { cls:=.type "list",data:=.seq bF.toArray n }={ cls:=.type "list",data:=.seq (bF.set j u).toArray n }:=by
 simp [Obj.mapSeq]
theorem Inv.lst {pins:List (Addr×Obj)}{σ:St}{H:Hp}{s:Shared}{p:Addr}{xs:List V} (I:Inv X pins σ H s) (h:H p=some (.lst xs)) :
  ∃ (bF:List Value) (n:Nat),Vals xs bF∧s.heap.get? p=some { cls:=.type "list",data:=.seq bF.toArray n }∧xs.length≤sizeLine:=by
 obtain⟨z,bF,n,r,e⟩:=I.d4 p _ h
 exact⟨bF,n,r,e,z⟩
theorem Inv.Qz {pins:List (Addr×Obj)}{σ:St}{H:Hp}{s:Shared}{p:Addr}{xs ys:List V}{bF its':List Value}{n n':Nat}{f:Obj→Obj} (I:Inv X pins σ H s) (h:H p=some (.lst xs))
  (ho:s.heap.get? p=some { cls:=.type "list",data:=.seq bF.toArray n }) (hf:f { cls:=.type "list",data:=.seq bF.toArray n }={ cls:=.type "list",data:=.seq its'.toArray n' }) (r:Vals ys its') (hz:ys.length≤sizeLine) (t:Nat) :
  Inv X pins σ (upd H p (.lst ys)) { s with heap:=s.heap.update p f,toks:=t }:=by
 have e:(s.heap.update p f).get? p=some { cls:=.type "list",data:=.seq its'.toArray n' }:=by
  rw[Heap.get?_update_self f ho (by rw[hf]<;>rfl),hf]
 refine I.write (x:=p) (e:=p) (by rw[h];trivial) (.inl rfl) (fun b u hb q=>(Heap.get?_update_other _ _ (Ne.symm hb)).trans q) ⟨_,e⟩ ?_
 exact⟨hz,its',n',r,e⟩
def rSetL:V→V→V→Hp→(Hp→Prop)→Prop:=fun o i v H Q=>∃ p xs k j,o=.ref p∧i=.int k∧H p=some (.lst xs)∧LX xs.length k=some j∧Q (upd H p (.lst (xs.set j v)))
theorem set_list:So X rSetL:=by
 intro pins s σ H o i v ov iv u Q I ro ri rv h
 obtain⟨p,xs,k,j,rfl,rfl,hp,hj,q⟩:=h
 cases ro
 obtain⟨t,rfl⟩:=ri
 obtain⟨bF,n,r,ho,hz⟩:=I.lst hp
 obtain⟨h1,h2,h3,h4⟩:=La hj
 have hl:=r.length
 have hn:=y3
 have I':Inv X pins σ (upd H p (.lst (xs.set j v))) { s with heap:=s.heap.update p (Obj.mapSeq (·.setIfInBounds j u)) } :=
  I.Qz hp ho (Je bF n j u) (r.set rv j) (by rw[List.length_set];exact hz) s.toks
 by_cases h0:0≤k
 ·have hk:k.toNat=j:=by
   rw[seqIndex_of h0 h4] at h1
   exact Option.some.inj h1
  exact PySem.W.ki_setAt ho h0 (by omega) (by rw[List.size_toArray,←hl];exact h4) (by rw[hk];exact⟨_,I',q⟩)
 ·have hk:(k+(bF.toArray.size:Int)).toNat=j:=by
   rw[seqIndex_neg (by omega) h3] at h1
   rw[List.size_toArray,←hl]
   exact Option.some.inj h1
  exact PySem.W.ki_setBack ho (by omega) (by rw[List.size_toArray,←hl];exact h3) (by omega) (by rw[hk];exact⟨_,I',q⟩)
theorem FH (lo hi:Option Int) (n:Nat):(sliceBounds lo hi none n).1=((HT.kr n 0 lo:Nat):Int)∧(sliceBounds lo hi none n).2.1=((HT.kr n n hi:Nat):Int)∧(sliceBounds lo hi none n).2.2=1:=by
 refine⟨?_,?_,rfl⟩
 ·cases lo with
  | none=>simp [sliceBounds,HT.kr]
  | some i =>
   simp only[sliceBounds,HT.kr,Option.getD_none,show (1:Int)>0 by decide,if_true]
   by_cases h:i<0
   ·simp only[h,if_true]<;>omega
   ·simp only[h,if_false]<;>omega
 ·cases hi with
  | none=>simp [sliceBounds,HT.kr]
  | some i =>
   simp only[sliceBounds,HT.kr,Option.getD_none,show (1:Int)>0 by decide,if_true]
   by_cases h:i<0
   ·simp only[h,if_true]<;>omega
   ·simp only[h,if_false]<;>omega
theorem Eu (bF:List Value) (lo hi:Option Int):slicePick bF.toArray lo hi none=((bF.drop (HT.kr bF.length 0 lo)).take (HT.kr bF.length bF.length hi-HT.kr bF.length 0 lo)).toArray:=by
 obtain⟨h1,h2,h3⟩:=FH lo hi bF.toArray.size
 unfold slicePick
 rw[h1,h2,h3]
 simp only[sliceRange_one,pick_run,List.size_toArray]<;>rfl
def rSlL (K:PySem.W.Frag):V→Option Int→Option Int→Hp→VK→Prop:=fun x lo hi H Q=>∃ a xs,x=.ref a∧bA K H a xs∧∀ p,H p=none→Q (.ref p) (upd H p (.lst (tP xs lo hi)))
theorem sR:Pr X (rSlL X.K):=by
 intro pins s σ H x v vl vu lo hi sl Q I rx hs pl pu h
 obtain⟨a,xs,rfl,hx,q⟩:=h
 cases rx
 obtain⟨bF,r,ht,hz⟩:=I.list hx
 have hlen:=r.length
 refine⟨"list",_,slot_list_getitem.lookup,ht.isList.typeIs,?_⟩
 refine wpAny_getItem_list_slice ht.isList hs pl pu .none (by simp) ?_ (by rw[List.size_toArray]<;>omega)
 rw[Eu,←hlen]
 refine⟨.ref s.heap.objs.size,_,I.laid (t':=s.toks) (o:=.lst (tP xs lo hi)) (fun b ob q=>Heap.get?_push_of_some _ q) (Nat.le_refl _) ?_,rfl,q _ (I.d4.fresh (Nat.le_refl _))⟩
 exact⟨Nat.le_trans (BV xs lo hi) hz,_,0,(r.drop (HT.kr xs.length 0 lo)).take (HT.kr xs.length xs.length hi-HT.kr xs.length 0 lo),Heap.get?_push_size _ rfl⟩
def rl:V→Bool
 | .cU=>true
 | .bl _=>true
 | .int _=>true
 | .str _=>true
 | _=>false
def Lb:V→V→Bool
 | .cU,.cU=>true
 | .bl a,.bl b=>a==b
 | .bl a,.int b=>(if a then 1 else 0)==b
 | .int a,.bl b=>a==(if b then 1 else 0)
 | .int a,.int b=>a==b
 | .str a,.str b=>a==b
 | _,_=>false
theorem QA {A:Around}{s:Shared}{y x:V}{u v:Value} (ry:RelV y u) (rx:RelV x v) (fy:rl y=true) (fx:rl x=true):SeqAt.EqAt A s u v (Lb y x):=by
 cases y with
 | cU =>
  cases ry
  cases x with
  | cU=>cases rx;exact SeqAt.EqAt.same _
  | bl b=>cases rx;exact SeqAt.EqAt.none_bool b
  | int b=>obtain⟨t,rfl⟩:=rx;exact SeqAt.EqAt.none_int b t
  | str b=>obtain⟨t,rfl⟩:=rx;exact SeqAt.EqAt.none_str b t
  | _=>exact absurd (show false=true from fx) Bool.false_ne_true
 | bl a =>
  cases ry
  cases x with
  | cU=>cases rx;exact SeqAt.EqAt.bool_none a
  | bl b=>cases rx;exact SeqAt.EqAt.bool_bool a b
  | int b=>obtain⟨t,rfl⟩:=rx;exact SeqAt.EqAt.bool_int a b t
  | str b=>obtain⟨t,rfl⟩:=rx;exact SeqAt.EqAt.bool_str a b t
  | _=>exact absurd (show false=true from fx) Bool.false_ne_true
 | int a =>
  obtain⟨t',rfl⟩:=ry
  cases x with
  | cU=>cases rx;exact SeqAt.EqAt.int_none a t'
  | bl b=>cases rx;exact SeqAt.EqAt.int_bool a t' b
  | int b=>obtain⟨t,rfl⟩:=rx;exact SeqAt.EqAt.int_int a t' b t
  | str b=>obtain⟨t,rfl⟩:=rx;exact SeqAt.EqAt.int_str a t' b t
  | _=>exact absurd (show false=true from fx) Bool.false_ne_true
 | str a =>
  obtain⟨t',rfl⟩:=ry
  cases x with
  | cU=>cases rx;exact SeqAt.EqAt.str_none a t'
  | bl b=>cases rx;exact SeqAt.EqAt.str_bool a t' b
  | int b=>obtain⟨t,rfl⟩:=rx;exact SeqAt.EqAt.str_int a t' b t
  | str b=>obtain⟨t,rfl⟩:=rx;exact SeqAt.EqAt.str_str a t' b t
  | _=>exact absurd (show false=true from fx) Bool.false_ne_true
 | _=>exact absurd (show false=true from fy) Bool.false_ne_true
def MG (x:V) (u:Value):Bool:=match u with
 | .none=>Lb .cU x
 | .bool b=>Lb (.bl b) x
 | .int i _=>Lb (.int i) x
 | .str z _=>Lb (.str z) x
 | _=>false
theorem Jf {x y:V}{u:Value} (r:RelV y u) (f:rl y=true):MG x u=Lb y x:=by
 cases y with
 | cU=>cases r;rfl
 | bl b=>cases r;rfl
 | int i=>obtain⟨t,rfl⟩:=r;rfl
 | str z=>obtain⟨t,rfl⟩:=r;rfl
 | _=>exact absurd (show false=true from f) Bool.false_ne_true
theorem FI {x:V}:∀ {xs:List V}{us:List Value},Vals xs us→xs.all rl=true→us.any (MG x)=xs.any fun y=>Lb y x
 | _,_,.nil,_=>rfl
 | y::xs,u::us,.cons r t,f=>by
  rw[List.all_cons,Bool.and_eq_true] at f
  rw[List.any_cons,List.any_cons,Jf r f.1,FI t f.2]
theorem wN {A:Around}{s:Shared}{x:V}{v:Value} (rx:RelV x v) (fx:rl x=true):∀ {xs:List V}{us:List Value},Vals xs us→xs.all rl=true→∀ u∈us,SeqAt.EqAt A s u v (MG x u)
 | _,_,.nil,_=>fun u hu=>by cases hu
 | y::xs,u::us,.cons r t,f=>fun u' hu=>by
  rw[List.all_cons,Bool.and_eq_true] at f
  rcases List.mem_cons.mp hu with rfl | hu
  ·rw[Jf r f.1];exact QA r rx f.1 fx
  ·exact wN rx fx t f.2 u' hu
def SF (x:V) (xs:List V):Bool:=xs.any fun y=>Lb y x
def YE (K:PySem.W.Frag) (neg:Bool):R2:=fun x y H Q=>∃ p xs,y=.ref p∧(bA K H p xs∨df K H p xs)∧rl x=true∧xs.all rl=true∧Q (.bl (if neg then !SF x xs else SF x xs)) H
theorem LY:y2 X (compareOp .In) (YE X.K false):=by
 intro pins s σ H x y v u Q I rx ry h
 obtain⟨p,xs,rfl,hq,fx,fs,q⟩:=h
 cases ry
 rcases hq with hq | hq
 ·obtain⟨bF,r,pl,hz⟩:=I.list hq
  refine SeqAt.in_listAt (MG x) pl.isList (fun w hw=>wN rx fx r fs w (by simpa using hw)) ⟨.bl _,H,I,rfl,?_⟩
  rw[show bF.toArray.any (MG x)=bF.any (MG x) by simp,FI r fs]
  exact q
 ·obtain⟨bF,r,pl,hz⟩:=I.tuple hq
  refine SeqAt.in_tupleAt (MG x) pl (fun w hw=>wN rx fx r fs w (by simpa using hw)) ⟨.bl _,H,I,rfl,?_⟩
  rw[show bF.toArray.any (MG x)=bF.any (MG x) by simp,FI r fs]
  exact q
theorem Af:gH X (.builtin "len") (fun xs H Q=>∃ p ys,xs=[.ref p]∧(bA X.K H p ys∨df X.K H p ys)∧Q (.int ys.length) H):=by
 intro pins s σ H xs us Q I r h
 obtain⟨p,ys,rfl,hq,q⟩:=h
 obtain⟨u,rfl,rx⟩:=vals1 r
 cases rx
 have hn:=y3
 rcases hq with hq | hq
 ·obtain⟨bF,r',pl,hz⟩:=I.list hq
  have hlen:=r'.length
  exact Calls.call_len_list pl.isList (by simp only[List.size_toArray]<;>omega) ⟨.int ys.length,H,I.tok _,⟨s.toks+1,by rw[List.size_toArray,hlen]⟩,q⟩
 ·obtain⟨bF,r',pl,hz⟩:=I.tuple hq
  have hlen:=r'.length
  exact len_tuple pl (by simp only[List.size_toArray]<;>omega) ⟨.int ys.length,H,I.tok _,⟨s.toks+1,by rw[List.size_toArray,hlen]⟩,q⟩
theorem FJ:gH X (.builtin "len") (fun xs H Q=>∃ z,xs=[.str z]∧z.length≤sizeLine∧Q (.int z.length) H):=by
 intro pins s σ H xs us Q I r h
 obtain⟨z,rfl,hz,q⟩:=h
 obtain⟨u,rfl,t,rfl⟩:=vals1 r
 have hn:=y3
 exact len_str (by omega) ⟨.int z.length,H,I.tok _,⟨_,rfl⟩,q⟩
theorem gH.or {f:Value}{r r':List V→Hp→VK→Prop} (h:gH X f r) (h':gH X f r'):gH X f (fun xs H Q=>r xs H Q∨r' xs H Q):=by
 intro pins s σ H xs us Q I rs q
 rcases q with q | q
 ·exact h pins s σ H xs us Q I rs q
 ·exact h' pins s σ H xs us Q I rs q
theorem FK:gH X (.type "list") (fun xs H Q=>∃ p ys,xs=[.ref p]∧(bA X.K H p ys∨df X.K H p ys)∧∀ l,H l=none→Q (.ref l) (upd H l (.lst ys))):=by
 intro pins s σ H xs us Q I r h
 obtain⟨p,ys,rfl,hq,q⟩:=h
 obtain⟨u,rfl,rx⟩:=vals1 r
 cases rx
 have fin:∀ (bF:List Value),Vals ys bF→ys.length≤sizeLine→∀ (h':Heap) (c':Nat),(∀ b o',s.heap.get? b=some o'→h'.get? b=some o') →
   h'.get? s.heap.objs.size=some { cls:=.type "list",dict:=none,data:=.seq bF.toArray c',slots:=#[] }→EP X pins σ Q (.ref s.heap.objs.size) { s with heap:=h' }:=fun bF r' hz h' c' kp e =>
  ⟨.ref s.heap.objs.size,_,I.laid (t':=s.toks) kp (Nat.le_refl _) (show gj X.prog X.w _ h' _ (.lst ys) from ⟨hz,bF,c',r',e⟩),rfl,q _ (I.d4.fresh (Nat.le_refl _))⟩
 rcases hq with hq | hq
 ·obtain⟨bF,r',pl,hz⟩:=I.list hq
  have hlen:=r'.length
  obtain⟨o,ho,hc,n,hd⟩:=pl.isList
  exact call_list_seq p (.inl rfl) ho hc hd (fun h' c' kp e=>fin bF r' hz h' c' kp e) (by simp only[List.size_toArray]<;>omega)
 ·obtain⟨bF,r',pl,hz⟩:=I.tuple hq
  have hlen:=r'.length
  obtain⟨o,ho,hc,n,hd⟩:=pl
  exact call_list_seq p (.inr rfl) ho hc hd (fun h' c' kp e=>fin bF r' hz h' c' kp e) (by simp only[List.size_toArray]<;>omega)
theorem Ew:gH X (.type "tuple") (fun xs H Q=>∃ p ys,xs=[.ref p]∧((bA X.K H p ys∧∀ l,H l=none→Q (.ref l) (upd H l (.tup ys)))∨(df X.K H p ys∧Q (.ref p) H))):=by
 intro pins s σ H xs us Q I r h
 obtain⟨p,ys,rfl,h⟩:=h
 obtain⟨u,rfl,rx⟩:=vals1 r
 cases rx
 rcases h with ⟨hq,q⟩ | ⟨hq,q⟩
 ·obtain⟨bF,r',pl,hz⟩:=I.list hq
  have hlen:=r'.length
  refine call_tuple_list pl.isList (fun h' kp=>?_) (by simp only[List.size_toArray]<;>omega)
  have I1:Inv X pins σ H { s with heap:=h' }:=I.kept (t':=s.toks) kp
  have I2:Inv X pins σ (upd H h'.objs.size (.tup ys)) { s with heap:=h'.push { cls:=.type "tuple",data:=.seq bF.toArray } } :=
   I1.laid (t':=s.toks) (fun b o e=>Heap.get?_push_of_some _ e) (Nat.le_refl _) (show gj X.prog X.w _ _ _ (.tup ys) from ⟨hz,bF,r',IsTup.new _ _⟩)
  exact⟨.ref h'.objs.size,_,I2,rfl,q _ (I1.d4.fresh (Nat.le_refl _))⟩
 ·obtain⟨bF,r',pl,hz⟩:=I.tuple hq
  exact call_tuple_same pl ⟨.ref p,H,I,rfl,q⟩
def Vw (K:PySem.W.Frag) (T:String) (x:V) (H:Hp):Prop:=match x with
 | .str _=>T = "str"
 | .int _=>T = "int"
 | .ref p=>(T = "list" ∧ ∃ xs,bA K H p xs)∨(T = "tuple" ∧ ∃ o,K.lookup p=some o∧o.cls=.type "tuple" ∧ o.dict=none) ∨
   (T = "dict" ∧ ((∃ cR,H p=some (.dK cR))∨∃ cR,H p=some (.dT cR)))∨(T = "set" ∧ ∃ S n,H p=some (.set S n))
 | _=>False
theorem Na {pins:List (Addr×Obj)}{σ:St}{H:Hp}{s:Shared}{T:String}{x:V}{v:Value} (I:Inv X pins σ H s) (r:RelV x v) (ty:Vw X.K T x H) :
  s.TypeIs v T∧∀ a,v=.ref a→∃ ob,s.heap.get? a=some ob∧ob.dict=none:=by
 cases x with
 | str z =>
  obtain⟨t,rfl⟩:=r
  cases (show T = "str" from ty)
  exact⟨typeIs_str s z t,fun _ e=>nomatch e⟩
 | int i =>
  obtain⟨t,rfl⟩:=r
  cases (show T = "int" from ty)
  exact⟨typeIs_int s i t,fun _ e=>nomatch e⟩
 | ref p =>
  cases r
  rcases ty with ⟨rfl,xs,hq⟩ | ⟨rfl,o,hk,hc,hd⟩ | ⟨rfl,hk⟩ | ⟨rfl,S,n,hk⟩
  ·obtain⟨bF,_,pl,_⟩:=I.list hq
   refine⟨pl.isList.typeIs,fun a e=>?_⟩
   cases e
   obtain⟨o,n,e,c,hd,_⟩:=pl
   exact⟨o,e,hd⟩
  ·refine⟨⟨o,I.A1 p o hk,hc⟩,fun a e=>?_⟩
   cases e
   exact⟨o,I.A1 _ o hk,hd⟩
  ·have z:∃ o,s.heap.get? p=some o∧o.ExactDict:=by
    rcases hk with ⟨cR,hk⟩ | ⟨cR,hk⟩
    ·obtain⟨_,_,_,_,o,_,_,e,ex,_⟩:=I.d4 p _ hk
     exact⟨o,e,ex⟩
    ·obtain⟨_,_,_,_,o,_,_,e,ex,_⟩:=I.d4 p _ hk
     exact⟨o,e,ex⟩
   obtain⟨o,e,ex⟩:=z
   refine⟨⟨o,e,ex.1⟩,fun a e2=>?_⟩
   cases e2
   exact⟨o,e,ex.2.1⟩
  ·obtain⟨o,_,_,_,e,ex,_⟩:=I.d4 p _ hk
   refine⟨⟨o,e,ex.1⟩,fun a e2=>?_⟩
   cases e2
   exact⟨o,e,ex.2.1⟩
 | _=>exact False.elim ty
def tBM0 (K:PySem.W.Frag) (T:String) (r:V→List V→Hp→VK→Prop) (to:TE):TE:=fun σ H Q=>to σ H fun x H1=>Vw K T x H1∧r x [] H1 Q
def tBM (K:PySem.W.Frag) (T:String) (r:V→List V→Hp→VK→Prop) (to:TE) (t:TA):TE:=fun σ H Q=>to σ H fun x H1=>Vw K T x H1∧t σ H1 fun xs H2=>r x xs H2 Q
variable {o e:Expr}{es:List Expr}{to:TE}{t:TA}{name:Str}{apos lX:Pos}{T id:String}{r:V→List V→Hp→VK→Prop}
theorem QB (pa:PlainAttrs T) (slot:Slot T name id) (Vx:typeOf (.builtin id)=pure (.type "method_descriptor")) (hm:RN X id r) (ho:PE X o to)
  (He:attributeBase o name X.env (eval o X.env)=eval o X.env:=by rfl) (Hf:(apos.endLine==lX.line)=true:=by rfl):PE X (.Call (.Attribute o name apos) [] [] lX) (tBM0 X.K T r to):=by
 intro pins s σ H Q I h
 refine wpAny_Call_method0_late He Hf (gZ (ho pins s σ H _ I h) fun v s1 ⟨x,H1,I1,r1,ty,q1⟩=>?_)
 obtain⟨h1,h2⟩:=Na I1 r1 ty
 exact⟨T,id,pa,slot,Vx,h1,h2,Calls.callWith_builtin rfl (PySem.evalArgs_none (hm pins s1 σ H1 x [] v [] Q I1 r1 .nil q1))⟩
theorem qI (pa:PlainAttrs T) (slot:Slot T name id) (Vx:typeOf (.builtin id)=pure (.type "method_descriptor")) (hm:RN X id r) (ho:PE X o to) (ha:PA X (e::es) t)
  (He:attributeBase o name X.env (eval o X.env)=eval o X.env:=by rfl)
  (QC:((backTo lX (starEach (e::es) X.env)).all (fun x => !x.1)&&(backToKw lX (keywordEach [] X.env)).all (fun x=>x.1.isSome)
   && decide ((e::es).length+([]:List Keyword).length+(if ([]:List Keyword).isEmpty then 0 else 1)<30))=true:=by rfl)
  (Hf:(apos.endLine==lX.line)=true:=by rfl) (hs:starEach (e::es) X.env=(false,eval e X.env)::starEach es X.env:=by rfl) (Jg:(backTo lX (starEach es X.env)).any (·.1)=false:=by rfl) :
  PE X (.Call (.Attribute o name apos) (e::es) [] lX) (tBM X.K T r to t):=by
 intro pins s σ H Q I h
 refine wpAny_Call_method_late He QC Hf rfl (gZ (ho pins s σ H _ I h) fun v s1 ⟨x,H1,I1,r1,ty,q1⟩=>?_)
 obtain⟨h1,h2⟩:=Na I1 r1 ty
 refine⟨T,id,pa,slot,Vx,h1,h2,?_⟩
 have hA:=ha lX pins s1 σ H1 _ I1 q1
 rw[hs] at hA ⊢
 refine Calls.callWith_builtin (by show (false||(backTo lX (starEach es X.env)).any (·.1))=false;rw[Jg]<;>rfl) (Calls.evalArgs_plain ?_)
 exact gZ hA fun us s2 ⟨vs,H2,I2,r2,q2⟩=>hm pins s2 σ H2 x vs v us Q I2 r1 r2 q2
end
end L2
namespace L2
open PySem PySem.Spec PyProof.Rows
def SG (X:Cx) (id:String) (r:V→List V→Hp→VK→Prop):Prop :=
 ∀ (pins:List (Addr×Obj)) (s:Shared) (σ:St) (H:Hp) (x:V) (xs:List V) (v:Value) (us:List Value) (Q:VK),Inv X pins σ H s→RelV x v→Vals xs us→r x xs H Q →
  wpAny (model X.prog X.w) X.A (call (.builtin id) (v::us)) (EP X pins σ Q) X.xe s
theorem Vals.one:∀ {x:V}{us:List Value},Vals [x] us→∃ u,us=[u]∧RelV x u
 | _,_,.cons r .nil=>⟨_,rfl,r⟩
theorem Vals.zero:∀ {us:List Value},Vals [] us→us=[]
 | _,.nil=>rfl
theorem Vals.dropLast {xs:List V}{us:List Value} (h:Vals xs us):Vals xs.dropLast us.dropLast:=by
 induction h with
 | nil=>exact .nil
 | cons r t ih =>
  cases t with
  | nil=>exact .nil
  | cons q t'=>exact .cons r ih
theorem Vals.eraseIdx:∀ {xs:List V}{us:List Value} (i:Nat),Vals xs us→Vals (xs.eraseIdx i) (us.eraseIdx i)
 | _,_,_,.nil=>.nil
 | _,_,0,.cons _ t=>t
 | _,_,i+1,.cons r t=>.cons r (Vals.eraseIdx i t)
theorem Jh {α:Type} (l:List α):l.eraseIdx (l.length-1)=l.dropLast:=by
 induction l with
 | nil=>rfl
 | cons a r ih =>
  cases r with
  | nil=>rfl
  | cons b r =>
   have e:(a::b::r).length-1=((b::r).length-1)+1:=by
    have h1:(a::b::r).length=r.length+2:=rfl
    have h2:(b::r).length=r.length+1:=rfl
    omega
   rw[e,List.eraseIdx_cons_succ,ih]
   all_goals rfl
section
variable {X:Cx}{pins:List (Addr×Obj)}{σ:St}{H:Hp}{s:Shared}{l b:Addr}{xs ys zs:List V}
theorem Inv.QD {bF its':List Value}{n:Nat}{f:Array Value→Array Value}{t':Nat} (I:Inv X pins σ H s) (hH:H l=some (.lst xs))
  (e:s.heap.get? l=some { cls:=.type "list",data:=.seq bF.toArray n }) (hf:f bF.toArray=its'.toArray) (hv:Vals ys its') (hz:ys.length≤sizeLine) :
  Inv X pins σ (upd H l (.lst ys)) { s with heap:=s.heap.update l (Obj.mapSeq f),toks:=t' }:=by
 have q:=PySem.IsL.update e f
 rw[hf] at q
 refine I.write (x:=l) (e:=l) (by rw[hH];exact trivial) (.inl rfl) (fun b' u hb hu=>(Heap.get?_update_other s.heap (Obj.mapSeq f) (Ne.symm hb)).trans hu) ⟨_,q⟩ ?_
 exact⟨hz,its',_,hv,q⟩
theorem Inv.Vy {bF:List Value}{t':Nat} (I:Inv X pins σ H s) (hv:Vals ys bF) (hz:ys.length≤sizeLine) :
  Inv X pins σ (upd H s.heap.objs.size (.lst ys)) { s with heap:=s.heap.push { cls:=.type "list",data:=.seq bF.toArray },toks:=t' } :=
 I.laid (fun _ _ q=>Heap.get?_push_of_some _ q) (Nat.le_refl _) ⟨hz,bF,0,hv,Heap.get?_push_size _ rfl⟩
theorem Inv.fresh (I:Inv X pins σ H s):H s.heap.objs.size=none:=I.d4.fresh (Nat.le_refl _)
theorem Inv.LZ (I:Inv X pins σ H s) (hH:H l=some (.lst xs)):xs.length≤sizeLine∧∃ (bF:List Value) (n:Nat),Vals xs bF∧xs.length=bF.length∧s.heap.get? l=some { cls:=.type "list",data:=.seq bF.toArray n }:=by
 obtain⟨z,bF,n,r,e⟩:=I.d4 l _ hH
 exact⟨z,bF,n,r,r.length,e⟩
theorem Nb {n:Nat} (h:n≤sizeLine):Builtin.List.listTooLong n=false:=by
 unfold Builtin.List.listTooLong
 exact decide_eq_false (by omega)
end
section
variable {X:Cx}
def rAppend:V→List V→Hp→VK→Prop:=fun x vs H Q=>∃ l xs y,x=.ref l∧vs=[y]∧H l=some (.lst xs)∧xs.length<sizeLine∧Q .cU (upd H l (.lst (xs++[y])))
theorem gk:SG X "list.append" rAppend:=by
 intro pins s σ H x vs v us Q I rx rv h
 obtain⟨l,xs,y,rfl,rfl,hH,hz,q⟩:=h
 cases rx
 obtain⟨u,rfl,ru⟩:=rv.one
 obtain⟨z,bF,n,r,hl,e⟩:=I.LZ hH
 refine call_meets F.slot_list_append ⟨_,e,rfl⟩ F.entry_list_append (F.args_list_append_2 _ _) (PySem.list_append l bF.toArray n u (by rw[List.size_toArray];omega)) ⟨e,?_⟩
 refine⟨.cU,_,I.QD (its':=bF++[u]) hH e (by simp) (r.append (.cons ru .nil)) ?_,rfl,q⟩
 rw[List.length_append,List.length_singleton]
 omega
def rExtend:V→List V→Hp→VK→Prop:=fun x vs H Q=>∃ l b xs zs,x=.ref l∧vs=[.ref b]∧H l=some (.lst xs)∧H b=some (.lst zs)∧xs.length+zs.length≤sizeLine∧Q .cU (upd H l (.lst (xs++zs)))
theorem L0:SG X "list.extend" rExtend:=by
 intro pins s σ H x vs v us Q I rx rv h
 obtain⟨l,b,xs,zs,rfl,rfl,hH,hB,hz,q⟩:=h
 cases rx
 obtain⟨u,rfl,ru⟩:=rv.one
 cases ru
 obtain⟨z,bF,n,r,hl,e⟩:=I.LZ hH
 obtain⟨z2,y4,n2,r2,RO,e2⟩:=I.LZ hB
 have hsz:bF.toArray.size+y4.toArray.size≤sizeLine:=by rw[List.size_toArray,List.size_toArray];omega
 have SI:¬ (!bF.toArray.isEmpty&&Builtin.List.listTooLong (bF.toArray.size+y4.toArray.size))=true:=by
  rw[Nb hsz,Bool.and_false]
  exact Bool.false_ne_true
 refine call_meets F.slot_list_extend ⟨_,e,rfl⟩ F.entry_list_extend (F.args_list_extend_2 _ _)
  (AutoSeq1.list_extend_list_list_0 l bF.toArray n b y4.toArray n2 SI (by rw[List.size_toArray];omega) (by omega)) ⟨e,e2,?_⟩
 refine⟨.cU,_,I.QD (its':=bF++y4) hH e (by simp) (r.append r2) ?_,rfl,q⟩
 rw[List.length_append]
 omega
def rPop:V→List V→Hp→VK→Prop:=fun x vs H Q=>∃ l xs y,x=.ref l∧vs=[]∧H l=some (.lst xs)∧xs[xs.length-1]? = some y∧Q y (upd H l (.lst xs.dropLast))
theorem QE:SG X "list.pop" rPop:=by
 intro pins s σ H x vs v us Q I rx rv h
 obtain⟨l,xs,y,rfl,rfl,hH,hy,q⟩:=h
 cases rx
 have Vz:=rv.zero
 subst Vz
 obtain⟨z,bF,n,r,hl,e⟩:=I.LZ hH
 obtain⟨u,hu,ru⟩:=r.get hy
 have L1:bF.toArray[bF.toArray.size-1]? = some u:=by
  show bF.toArray[bF.length-1]? = some u
  rw[←Array.getElem?_toList,←hl]
  exact hu
 refine call_meets F.slot_list_pop ⟨_,e,rfl⟩ F.entry_list_pop (F.args_list_pop_1 _) (MeetsSeq.list_pop_last l bF.toArray n u L1 (by rw[List.size_toArray];omega)) ⟨e,?_⟩
 refine⟨y,_,I.QD (its':=bF.dropLast) hH e ?_ r.dropLast ?_,ru,q⟩
 ·show bF.toArray.eraseIdxIfInBounds (bF.toArray.size-1)=bF.dropLast.toArray
  rw[List.size_toArray,List.eraseIdxIfInBounds_toArray,Jh]
 ·rw[List.length_dropLast]
  omega
def rCat:R2:=fun x y H Q=>∃ l b xs zs,x=.ref l∧y=.ref b∧H l=some (.lst xs)∧H b=some (.lst zs)∧xs.length+zs.length≤sizeLine∧∀ p,H p=none→Q (.ref p) (upd H p (.lst (xs++zs)))
theorem Ji:y2 X (binaryOp .Add) rCat:=by
 intro pins s σ H x y v u Q I rx ry h
 obtain⟨l,b,xs,zs,rfl,rfl,hH,hB,hz,q⟩:=h
 cases rx
 cases ry
 obtain⟨z,bF,n,r,hl,e⟩:=I.LZ hH
 obtain⟨z2,y4,n2,r2,RO,e2⟩:=I.LZ hB
 refine PySem.P.add_list e e2 ?_ (by rw[List.size_toArray,List.size_toArray];omega)
 have ea:bF.toArray++y4.toArray=(bF++y4).toArray:=by simp
 rw[ea]
 exact⟨.ref _,_,I.Vy (t':=s.toks) (r.append r2) (by rw[List.length_append];omega),rfl,q _ I.fresh⟩
end
section
variable {prog:Program}{w:World}{A:Around}{E:Value→Shared→Prop}{s:Shared}
set_option maxRecDepth 100000 in
end
section
variable {X:Cx}
end
end L2
namespace Att
open PySem PySem.W PySem.Calls PyProof.Rows
theorem Ct {P:Params}{h:Heap}:∀ (ns:List Int) (vs:List Value),WellAll P h vs (ns.map WData.int)→IntsAre vs ns:=by
 intro ns
 induction ns with
 | nil =>
  intro vs w
  rw[List.map_nil] at w
  cases w
  exact .nil
 | cons n ns ih =>
  intro vs w
  rw[List.map_cons] at w
  cases w with
  | cons a b =>
   cases a
   exact .cons _ _ (ih _ b)
theorem L3 {l:OpenLaw}{n:Nat} (hn:l.most=some n) {P:Params}{h:Heap}{args:List WData}{vals:List Value}
  (Hg:l.row.toRowW.claim.pre args=true) (OB:WellAll P h vals args) :
  ∃ a vs ns,vals=[Value.ref a]∧args=[WData.list (ns.map WData.int)]∧h.get? a=some { cls:=.type "list",data:=.seq vs.toArray }∧IntsAre vs ns∧ns.length≤n:=by
 have YF:WShape.hasAll [] args [.list .int]=true:=(pre_splitW Hg).1
 have hc:l.pre.holds [] { args:=args }=true:=(pre_splitW Hg).2
 obtain⟨d,r,rfl,h1,h2⟩:=hasAllW_cons YF
 obtain rfl:=hasAllW_nil h2
 obtain⟨xs,rfl,h3⟩:=hasW_list h1
 obtain⟨ns,rfl⟩:=items_int h3
 have hlen:ns.length≤n:=by
  unfold OpenLaw.pre at hc
  have h4:(WTm.not (.lt (.lit (.int (n:Int))) (.len (.arg 0)))).holds [] { args:=[.list (ns.map .int)] }=true:=by
   have h4:=(holds_andW hc).1
   rw[hn] at h4
   exact h4
  have h5:=condW_of h4 (w_not (w_lt w_lit (w_len_list (w_arg rfl))))
  rw[List.length_map] at h5
  refine Nat.le_of_not_lt fun q=>?_
  have q':(n:Int)<((ns.length:Nat):Int):=by omega
  first
   | (rw[decide_eq_true q'] at h5;exact absurd h5 (by decide))
   | (simp at h5;omega)
 cases OB with
 | cons w1 w2 =>
  cases w2
  cases w1 with
  | list ho FL=>exact⟨_,_,ns,rfl,rfl,ho,Ct ns _ FL,hlen⟩
theorem L4 (l:OpenLaw) (args:List WData):l.row.toRowW.claim.post args (.bool true) args=true :=
 postW_of (r:=l.row.toRowW) (X:=(true==true))
  (show WShape.has [] (.bool true) .bool=true by first | rfl | decide | simp [WShape.has,WShape.arms,WShape.armsAll])
  (show (WTm.eq .res (.lit (.bool true))).value [] { args:=args,res:=some (.bool true),after:=args }=some (.bool (true==true)) from w_eq_bool (w_res rfl) w_lit) rfl
theorem Hh {l:OpenLaw}{n:Nat}{q:Program}{loose:List Str}{XP:(Str→Option Value)→Heap→Prop}{YP:World→Heap→Prop}{d:DefRec}
  (hn:l.most=some n) (SJ:d.params.defaults=[])
  (call:∀ (w:World) (s₀ s₁:Shared) (mg mb:Str→Option Value) (fa:Addr) (o:Obj) (pm cd doc:Value) (a:Addr) (vs:List Value) (ns:List Int),
   Ground q loose [] XP w s₀ mg mb s₁.heap→YP w s₁.heap →
   s₁.heap.get? fa=some o→o.data=.func (docDef d.name d.params d.body d.scope pm cd doc)→s₁.heap.CodeRec cd d.name→mg d.name=some (.ref fa) →
   s₁.heap.get? a=some { cls:=.type "list",data:=.seq vs.toArray }→IntsAre vs ns→ns.length≤n→s₁.gens=#[] →
   codeAny (model l.prog w) callerA (.call (.ref fa) ⟨[.ref a],[]⟩) (fun r s'=>r=.ok (.ret (.bool true))∧OldK s₁.heap s'.heap∧s'.os=s₁.os∧AllBare s'.gens) s₁) :
  WalkO q loose XP YP l.row.toRowW d [] (fun f vs=>PySem.call f vs):=by
 intro w s₀ s₁ mg mb G Y fa o pm cd doc dV kV ho hd LK hD QF hg args vals as Hg YG hrd OB OS
 obtain rfl:dV=.none:=Dflts.none hD SJ
 obtain rfl:kV=.none:=Dflts.noKw hD
 obtain⟨a,vs,ns,rfl,rfl,QG,hints,hlen⟩:=L3 hn Hg OB
 refine enter_call (codeAny_mono (call w s₀ s₁ mg mb fa o pm cd doc a vs ns G Y ho (fd_plain hd) LK QF QG hints hlen hg) fun r s' hq=>?_)
 obtain⟨rfl,h2,h3,h4⟩:=hq
 exact⟨.inl ⟨.bool true,.bool true,[],rfl,fun _=>rfl,.bool true,L4 l _,fun _=>⟨List.Pairwise.nil,fun _ hm=>(nomatch hm)⟩⟩,h2,h3,h4⟩
section
variable {prog:Program}{w:World}{A:Around}{E:Value→Shared→Prop}{s:Shared}{K:Frag}
end
end Att
namespace L2
open PySem PySem.Spec PyProof.Rows
theorem Fc:∀ {vs:List Value}{ns:List Int},IntsAre vs ns→Vals (ns.map V.int) vs
 | _,_,.nil=>.nil
 | _,_,.cons n t h=>.cons ⟨t,rfl⟩ (Fc h)
def QH (H:Hp):Prop:=∀ b,H b=none∨∃ o xs,H b=some (.yE o (.lst xs))
theorem Nc {P:Program}{w:World}{K:PySem.W.Frag}{mg mb:Str→Option Value}{CX:II}{k:Nat}{fa a:Addr}{fd:FuncData}{x:Str}{sp:Sp}{s₁:Shared}{vs:List Value}{ns:List Int}
  (KX:K.In s₁.heap) (RP:s₁.heap.Ns mainGlobals mg) (hb:s₁.heap.Ns builtinsNs mb) (YH:∀ x:Str,x ≠ "__name__" → mb x=bootBuiltins x) (VA:s₁.heap.NoLimit) (hg:s₁.gens=#[])
  (ha:s₁.heap.get? a=some { cls:=.type "list",data:=.seq vs.toArray }) (hi:IntsAre vs ns) (hl:ns.length≤sizeLine) (hr:mT k callerA)
  (F:∀ base:Heap,K.In base→base.Ns mainGlobals mg→av P w K mg base CX k fa fd [x] sp) (SK:∀ (s:Shared) (u:Value),BindsTo s fd ⟨[u],[]⟩ [(x,u)])
  (OA:∀ H:Hp,QH H→bA K H a (ns.map V.int)→sp [.ref a] H (fun v _=>v=.bl true) fun _ _ _=>False)
  (VB:∀ H e s',CX [] H s₁ (fun _ _ _=>False) e s'→False) :
  codeAny (model P w) callerA (.call (.ref fa) ⟨[.ref a],[]⟩) (fun r s'=>r=.ok (.ret (.bool true))∧OldK s₁.heap s'.heap∧s'.os=s₁.os∧AllBare s'.gens) s₁:=by
 have rv:=Fc hi
 have VC:=hi.length
 have core:∀ H:Hp,QH H→bA K H a (ns.map V.int)→wg P w H s₁.heap→(∀ b,H b≠none→b=a)→(H a≠none→K.lookup a=none) →
   codeAny (model P w) callerA (.call (.ref fa) ⟨[.ref a],[]⟩) (fun r s'=>r=.ok (.ret (.bool true))∧OldK s₁.heap s'.heap∧s'.os=s₁.os∧AllBare s'.gens) s₁:=by
  intro H hO hS d4 hA hK
  have Lc:∀ {b:Addr}{o:Obj},s₁.heap.get? b=some o→H b=none→(Fy s₁.heap H).get? b=some o:=fun e n=>MO e n
  have SA:∀ {b:Addr}{o:Obj}{es:Array DictEntry}{ep:Nat},s₁.heap.get? b=some o→o.data=.dict es ep→H b=none:=fun {b o es ep} e d=>by
   cases q:H b with
   | none=>rfl
   | some u =>
    have e':b=a:=hA b (by rw[q];simp)
    subst e'
    rw[ha] at e;cases e
    have d':Data.seq vs.toArray _=Data.dict es ep:=d
    cases d'
  have UG:∀ {b:Addr}{m:Str→Option Value},s₁.heap.Ns b m→(Fy s₁.heap H).Ns b m:=fun {b m} ⟨o,es,ep,e,d,r⟩=>⟨o,es,ep,Lc e (SA e d),d,r⟩
  have Xq:K.In (Fy s₁.heap H):=fun b o e=>Lc (KX b o e) (by
   cases q:H b with
   | none=>rfl
   | some u =>
    have e':b=a:=hA b (by rw[q];simp)
    subst e'
    rw[hK (by rw[q];simp)] at e;cases e)
  have hM:Mod K mg (Fy s₁.heap H):=⟨Xq,UG RP,⟨mb,UG hb,YH⟩,let ⟨mc,h1,h2⟩:=VA;⟨mc,UG h1,h2⟩⟩
  have e0:C6 P w K mg (Fy s₁.heap H) callerA [] s₁ H:=⟨rfl,hM,fun b o e=>OH e,Nat.le_of_eq (LH _ _),trivial,fun b hb=>absurd (show b∈([]:List Addr) from hb) (by simp),d4,.of_eq hg⟩
  refine codeAny_mono ((F _ Xq (UG RP)).run callerA [] s₁ H ⟨[.ref a],[]⟩ [.ref a] [.ref a] _ _ hr e0 (SK s₁ (.ref a)) (.cons rfl .nil) (OA H hO hS)) fun r s' h=>?_
  cases r with
  | error e=>exact (VB H e s' h).elim
  | ok fl =>
   cases fl with
   | next=>exact False.elim h
   | brk=>exact False.elim h
   | cont=>exact False.elim h
   | ret u =>
    obtain⟨v,H',os,bare,un,VD,r',q⟩:=h
    have q':v=.bl true:=q
    subst q'
    obtain rfl:u=Value.bool true:=r'
    refine⟨rfl,OldK.of_keep fun b o e=>?_,os,bare⟩
    cases q:H b with
    | none=>exact un.keep b o e q (by intro z;exact absurd (show b∈([]:List Addr) from z) (by simp)) (by simp)
    | some u =>
     rcases hO b with z | ⟨ob,xs,z⟩
     ·rw[q] at z;cases z
     ·have z2:=un.sO b ob _ z
      obtain⟨e1,_⟩:=d4 b _ z
      obtain⟨e2,_⟩:=VD b _ z2
      rw[e] at e1;cases e1
      exact e2
 cases hk:K.lookup a with
 | some o =>
  have e:=KX a o hk
  rw[ha] at e
  cases e
  refine core (fun _=>none) (fun _=>.inl rfl) (.inr ⟨_,vs.toArray,_,hk,rfl,rfl,rfl,by rw[List.size_toArray,VC];exact hl,by simpa using rv⟩) (fun b u z=>by have z':(none:Option HO)=some u:=z;cases z') (fun b z=>absurd rfl z) fun z=>absurd rfl z
 | none =>
  refine core (fun b=>if b=a then some (.yE { cls:=.type "list",data:=.seq vs.toArray } (.lst (ns.map V.int))) else none) (fun b=>?_) (.inl (.inr ⟨{ cls:=.type "list",data:=.seq vs.toArray },if_pos rfl⟩)) (fun b u z=>?_) (fun b z=>?_) fun _=>hk
  ·by_cases hb:b=a
   ·exact .inr ⟨_,_,if_pos hb⟩
   ·exact .inl (if_neg hb)
  ·by_cases hb:b=a
   ·have z':=(if_pos hb).symm.trans z
    cases z'
    subst hb
    exact⟨ha,by rw[List.length_map];exact hl,vs,_,rv,ha⟩
   ·have z':=(if_neg hb).symm.trans z
    cases z'
  ·by_cases hb:b=a
   ·exact hb
   ·exact absurd (if_neg hb) z
end L2
namespace L2
open PySem PySem.Spec PyProof.Rows
abbrev KOf {K:PySem.W.Frag}{h:Heap} (_:K.In h):PySem.W.Frag:=K
theorem OT {l:PySem.W.OpenLaw}{n k:Nat}{q:Program}{loose:List Str}{XP:(Str→Option Value)→Heap→Prop}{YP:World→Heap→Prop}{d:DefRec}{K:Params→PySem.W.Frag}{CX:World→II}{sp:World→Sp}{x:Str}
  (hn:l.most=some n) (LR:n≤sizeLine) (SJ:d.params.defaults=[]) (hr:mT k callerA)
  (hY:∀ (w:World) (h:Heap),YP w h→(K w.params).In h)
  (F:∀ (w:World) (mg:Str→Option Value) (fa:Addr) (h:Heap),(K w.params).In h→h.Ns mainGlobals mg→mg d.name=some (.ref fa) →
   ∃ fd:FuncData,(∀ (s:Shared) (u:Value),BindsTo s fd ⟨[u],[]⟩ [(x,u)]) ∧
    ∀ base:Heap,(K w.params).In base→base.Ns mainGlobals mg→av l.prog w (K w.params) mg base (CX w) k fa fd [x] (sp w))
  (OA:∀ (w:World) (H:Hp) (a:Addr) (ns:List Int),ns.length≤n→QH H→bA (K w.params) H a (ns.map V.int)→sp w [.ref a] H (fun v _=>v=.bl true) fun _ _ _=>False)
  (VB:∀ (w:World) (H:Hp) (s:Shared) (e:Value) (s':Shared),CX w [] H s (fun _ _ _=>False) e s'→False) :
  PySem.W.WalkO q loose XP YP l.row.toRowW d [] (fun f vs=>PySem.call f vs):=by
 refine Att.Hh hn SJ fun w s₀ s₁ mg mb fa o pm cd doc a vs ns G Y ho hd LK QF QG hints hlen hg=>?_
 have KX:=hY w _ Y
 obtain⟨fd,hb,hF⟩:=F w mg fa _ KX G.T.g QF
 exact Nc KX G.T.g G.T.b G.T.builtins G.T.nolimit hg QG hints (Nat.le_trans hlen LR) hr hF hb (fun H hO hS=>OA w H a ns hlen hO hS) fun H e s'=>VB w H s₁ e s'
end L2
namespace L2
open PySem PySem.Spec PyProof.Rows
def inClass (s:Stmt) (j:Nat):Stmt:=match s with
 | .ClassDef _ _ _ body _ _ _ _ _ _ _=>body.getD j (.Pass ⟨0,0,0,0⟩)
 | _=>.Pass ⟨0,0,0,0⟩
def yx (s:Stmt):Arguments:=match s with
 | .FunctionDef _ a _ _ _ _ _ _ _ _=>a
 | _=>{ posonlyargs:=[],args:=[],vararg:=none,kwonlyargs:=[],kw_defaults:=[],kwarg:=none,defaults:=[] }
def sS (s:Stmt):List Stmt:=match s with
 | .FunctionDef _ _ b _ _ _ _ _ _ _=>b
 | _=>[]
def ar (s:Stmt):Scope:=match s with
 | .FunctionDef _ _ _ _ _ _ sc _ _ _=>sc
 | _=>{ kind:=.function,names:=[],isGenerator:=false,isCoroutine:=false }
abbrev bw:II:=fun _ _ _ _ _ _=>False
abbrev E0:XK:=fun _ _ _=>False
theorem aA {X:Cx}:Passes bw X E0:=fun _ _ _ _ _ _ _ h=>h.elim
structure qL (K:PySem.W.Frag) (x qual:Str) (st:Stmt) (f:Addr) (fd:FuncData):Prop where
 ex:∃ (oc:Value) (od:Option Addr) (kV doc pm:Value) (an:Option Addr) (gJ ct:Value) (LW:Array (Option Value)),
  fd=PySem.W.fnOf x qual (yx st) (sS st) (ar st) .none kV doc pm an gJ ct∧K.lookup f=some ⟨oc,od,.func fd,LW⟩∧PySem.W.codeIn K gJ qual=true
 kp:PySem.W.keepIn K (.ref f)=true
section
variable {P:Program}{w:World}{K:PySem.W.Frag}{mg:Str→Option Value}{base:Heap}
theorem qL.ok {x qual:Str}{st:Stmt}{f:Addr}{fd:FuncData}{N ps:List Str}{k:Nat}{sp:Sp} (F:qL K x qual st f fd) (S:aJ N ps (ar st)) (len:∀ vs H Q E,sp vs H Q E→vs.length=ps.length)
  (Hc:∀ (gJ:Value) (A:Around) (outer:List Env) (s:Shared) (H:Hp) (vs:List V) (Q:VK) (E:XK),mT k (A.deeper (envOfC qual (ar st) s.heap.objs.size f gJ))→sp vs H Q E →
   ∃ t,K0 (cxOf bw P w K mg base N qual (ar st) f gJ A outer s H E).Pn (sS st) t∧t { nx:=fun _ H'=>Q .cU H',rt:=Q } (start N vs) H):av P w K mg base bw (k+1) f fd ps sp:=by
 obtain⟨oc,od,kV,doc,pm,an,gJ,ct,LW,rfl,lk,LK⟩:=F.ex
 refine Pq lk LK S len fun A outer s H vs Q E hr OA=>?_
 obtain⟨t,h,q⟩:=Hc gJ A outer s H vs Q E hr OA
 exact⟨t,h.Pn,q⟩
theorem qL.binds {x qual:Str}{st:Stmt}{f:Addr}{fd:FuncData}{ps:List Str} (F:qL K x qual st f fd)
  (h:∀ (kV doc pm:Value) (an:Option Addr) (gJ ct:Value) (us:List Value),us.length=ps.length→bindArgs (PySem.W.fnOf x qual (yx st) (sS st) (ar st) .none kV doc pm an gJ ct) ⟨us,[]⟩=pure (ps.zip us)):Binds K fd ps []:=by
 obtain⟨oc,od,kV,doc,pm,an,gJ,ct,LW,rfl,lk,LK⟩:=F.ex
 exact .all (h kV doc pm an gJ ct)
theorem QI {x qual:Str}{st:Stmt}{f:Addr}{oc:Value}{od an:Option Addr}{LW:Array (Option Value)}{kV doc pm gJ ct:Value} (l:K.lookup f=some ⟨oc,od,.func (PySem.W.fnOf x qual (yx st) (sS st) (ar st) .none kV doc pm an gJ ct),LW⟩)
  (c:PySem.W.codeIn K gJ qual=true) (k:PySem.W.keepIn K (.ref f)=true):qL K x qual st f (PySem.W.fnOf x qual (yx st) (sS st) (ar st) .none kV doc pm an gJ ct):=⟨⟨oc,od,kV,doc,pm,an,gJ,ct,LW,rfl,l,c⟩,k⟩
end
theorem ay {n:Nat} (h:n≤1000):n<sizeLine:=Nat.lt_of_le_of_lt h (by decide)
section
variable {X:Cx}
theorem pv (i:Nat) {x:Str}{pos:Pos} (hN:X.N[i]? = some x:=by rfl) (hv:Uv X.env.scope x:=by first | exact Or.inl rfl | exact Or.inr (Or.inl rfl) | exact Or.inr (Or.inr rfl)) (hd:(x==("__debug__" : Str))=false:=by decide)
  (LK:(x==("__classdict__" : Str))=false:=by decide):PE X (.Name x pos) (tVar i):=Qj hN hv hd LK
end
theorem Nf {A B:Prop} (h:B):if false=true then A else B:=by
 rw[if_neg Bool.false_ne_true]
 exact h
theorem Hi {A B:Prop} (h:A):if true=true then A else B:=by
 rw[if_pos rfl]
 exact h
theorem fz {c A B:Prop} [Decidable c] (h1:c→A) (h2:¬ c→B):if c then A else B:=by
 by_cases h:c
 ·rw[if_pos h]
  exact h1 h
 ·rw[if_neg h]
  exact h2 h
def aq (H H':Hp):Prop:=∀ b o,H b=some o→H' b=some o
theorem aq.refl (H:Hp):aq H H:=fun _ _ h=>h
theorem aq.trans {H H1 H2:Hp} (a:aq H H1) (b:aq H1 H2):aq H H2:=fun c o h=>b c o (a c o h)
theorem aq.free {H H':Hp} (e:aq H H') {l:Addr} (h:H' l=Option.none):H l=Option.none:=by
 cases q:H l with
 | none=>rfl
 | some o =>
  rw[e l o q] at h
  cases h
theorem aq.seq {K:PySem.W.Frag}{H H':Hp}{a:Addr}{xs:List V} (e:aq H H') (h:bA K H a xs):bA K H' a xs:=by
 rcases h with (h | ⟨o,h⟩) | h
 ·exact .inl (.inl (e _ _ h))
 ·exact .inl (.inr ⟨o,e _ _ h⟩)
 ·exact .inr h
end L2
namespace L2
open PySem PySem.Spec PyProof.Rows
section
variable {P:Program}{w:World}{H:Hp}{h:Heap}{a:Addr}{o:HO}
theorem wg.Ld (x:wg P w H h) (hn:H a=none) (new:gj P w (upd H a o) h a o):wg P w (upd H a o) h:=fun b u e=>by
 by_cases hb:b=a
 ·subst hb;rw[ag] at e;cases e;exact new
 ·rw[aF hb] at e
  exact (x b u e).rj (fun c v _ q=>q) (fun c q=>by rw[aF (aG q hn)];exact q) fun c xs q=>by rw[aF (aG q hn)];exact q
end
def RQ (x:Str):It:=⟨fun i _=>i<x.cps.size,fun i H v H'=>H'=H∧∃ c,x.cps[i]? = some c∧v=.str ⟨#[c]⟩,fun i _=>i=x.cps.size⟩
theorem Fd {prog:Program}{w:World}{A:Around} (hh:A.handled=none) (I:Addr) (x:Str) (t:Tok):Walks prog w A I [I] [I] x.cps.size (SignAt x) (fun i h=>h.IsStrIter I (strIterType x) x t i):=by
 cases ha:x.cps.all (·<128)
 ·have e:strIterType x = "str_iterator" := by simp [strIterType,ha]
  rw[e];exact Walks.strWide hh I x t
 ·have e:strIterType x = "str_ascii_iterator" := by simp [strIterType,ha]
  rw[e];exact Walks.strAscii hh I x t
theorem Ng {P:Program}{w:World}{K:PySem.W.Frag}{tg:Expr} (it:Addr) (x:Str) (t:Tok):Turn P w K tg (RQ x) [it] it (fun i h=>h.IsStrIter it (strIterType x) x t i) where
 mem:=by simp
 obj:=fun i h st b hb=>by
  have e:b=it:=by simpa using hb
  subst e
  obtain⟨o,ho,_,hd⟩:=st
  exact⟨o,ho,fun v q=>by rw[hd] at q;cases q⟩
 keep:=fun i h h' st k=>by
  obtain⟨o,ho,r⟩:=st
  exact⟨o,k it (by simp) o ho,r⟩
 item:=by
  intro X hP hw hK hc i pins s σ H E I hf st hg
  subst hP hw hK
  obtain⟨f0,f1,f2,f3,f4,f5⟩:=hf it (by simp)
  refine (Fd (I.ok.hd hc) it x t).item i s _ _ hg st fun v h' tk hv G8 kk=>?_
  obtain⟨c,u,hx,rfl⟩:=hv
  have I1:Inv X pins σ H { s with heap:=h',toks:=tk }:=I.turned (fun b o hb e=>kk b o (by simpa using hb) e) f0 f1 f3 f4 f5
  obtain⟨o,ho,Fe,hd⟩:=id G8
  refine⟨_,rfl,K4 (s:={ s with heap:=h',toks:=tk }) (n:=strIterType x) ho Fe hd ?_ ⟨.str ⟨#[c]⟩,H,I1,⟨u,rfl⟩,⟨rfl,c,hx,rfl⟩,G8,fun b hb=>(hf b hb).1⟩⟩
  unfold strIterType;split<;>decide
 done:=by
  intro X hP hw hK hc i pins s σ H E I hf st hg
  subst hP hw hK
  obtain⟨f0,f1,f2,f3,f4,f5⟩:=hf it (by simp)
  have YI:i=x.cps.size:=hg
  subst YI
  exact (Fd (I.ok.hd hc) it x t).done s _ _ st fun h' tk kk=>⟨rfl,I.turned (fun b o hb e=>kk b o (by simpa using hb) e) f0 f1 f3 f4 f5⟩
 self:=fun A i s Q E st h=>by
  cases ha:x.cps.all (·<128)
  ·have e:strIterType x = "str_iterator" := by simp [strIterType,ha]
   rw[e] at st;exact wpAny_pyIter_striter_wide st h
  ·have e:strIterType x = "str_ascii_iterator" := by simp [strIterType,ha]
   rw[e] at st;exact wpAny_pyIter_striter_ascii st h
def iStr (tl:TE):TI:=fun σ H R=>tl σ H fun x H1=>∃ z,x=.str z∧R (RQ z) H1
theorem QJ {X:Cx}{tg l:Expr}{tl:TE} (hl:PE X l tl):PI X tg l (iStr tl):=by
 intro pins s σ H R I h
 refine gZ (hl pins s σ H _ I h) fun v s1 ⟨x,H1,I1,r1,q1⟩=>?_
 obtain⟨z,e,q⟩:=q1
 subst e
 obtain⟨t,rfl⟩:=r1
 refine wpAny_pyIter_strU ?_
 refine⟨s1.heap.objs.size,[s1.heap.objs.size],_,_,H1,rfl,I1.kept (t':=s1.toks) fun b o e=>Heap.get?_push_of_some _ e,Ng _ z t,⟨_,Heap.get?_push_size _ rfl,rfl,rfl⟩,fun b hb=>?_,q⟩
 have e:b=s1.heap.objs.size:=by simpa using hb
 subst e
 exact I1.IQ (Nat.le_refl _) (I1.d4.fresh (Nat.le_refl _))
section
variable {prog:Program}{w:World}{A:Around}{R:Result→Shared→Prop}{s:Shared}
theorem BW {elt target iter:Expr}{ifs:List Expr}{scope:Scope}{pos:Pos}{it acc:Value}{env:Env} (I:Nat→Shared→Prop)
  (turn:∀ n s,I n s→wpAny (model prog w) A (pyNext it) (fun r s₁=>match r with
   | none=>R (.ok .next) s₁
   | some v=>wpAny (model prog w) A (letOwnedTupleGo target it v) (fun _ Xr=>wpAny (model prog w) A (assign target env v) (fun _ s₂ =>
     wpAny (model prog w) A (forIn ifs true fun c r=>if r=true then do let ok ←isTrue c env (eval c env);pure (ForInStep.yield ok) else pure (ForInStep.yield r)) (fun ok s₃ =>
      if ok=true then wpAny (model prog w) A (eval elt env) (fun x s₄ =>
       wpAny (model prog w) A (call (.builtin "list.append") [acc,x]) (fun _ s₅=>∃ m,m<n∧I m s₅) (fun _ _=>False) s₄) (fun _ _=>False) s₃
      else ∃ m,m<n∧I m s₃) (fun _ _=>False) s₂) (fun _ _=>False) Xr) (fun _ _=>False) s₁) (fun _ _=>False) s)
  (n:Nat) (h:I n s) :
  codeAny (model prog w) A (.compLoop (.ListComp elt [⟨target,iter,ifs,0⟩] scope pos) 0 it acc env) R s:=by
 refine codeAny_loop rfl I (fun n s hI=>?_) n h
 show wpAny _ A ((compTurn (.ListComp elt [⟨target,iter,ifs,0⟩] scope pos) 0 it acc env).onRaise (fun x=>do noteFrame x env;theTreesLotGoes x)) _ _ s
 refine wpAny_noted ?_
 rw[compTurn_list]
 refine wpAny_bind (wpAny_standAt (wpAny_bind (wpAny_mono (turn n s hI) (fun r s₁ h₁=>?_) fun _ _ h'=>h'.elim)))
 cases r with
 | none=>exact wpAny_pure h₁
 | some v =>
  refine wpAny_bind (wpAny_mono h₁ (fun _ Xr YJ=>wpAny_bind (wpAny_mono YJ (fun _ s₂ h₂=>wpAny_bind (wpAny_mono h₂ (fun ok s₃ h₃=>?_) fun _ _ h'=>h'.elim)) fun _ _ h'=>h'.elim)) fun _ _ h'=>h'.elim)
  cases ok with
  | false=>exact wpAny_pure ⟨rfl,h₃⟩
  | true =>
   exact wpAny_bind (wpAny_bind (wpAny_mono h₃ (fun x s₄ h₄=>wpAny_bind (wpAny_mono h₄ (fun _ s₅ h₅=>wpAny_pure (wpAny_pure ⟨rfl,h₅⟩)) fun _ _ h'=>h'.elim)) fun _ _ h'=>h'.elim))
end
def nK (env:Env):List (Str×NameKind)→List (Str×Addr)→List (Str×Addr)
 | [],acc=>acc
 | (n,k)::r,acc=>nK env r (if k==.free then (n,(env.cells.lookup n).getD 0)::acc else acc)
theorem qv {scope:Scope}{env:Env} (h:∀ y∈scope.names,y.2=.free→∃ c,env.cells.lookup y.1=some c):closureFor scope env=pure (nK env scope.names []):=by
 simp only[closureFor]
 suffices hh:∀ (l:List (Str×NameKind)) (acc:List (Str×Addr)),(∀ y∈l,y.2=.free→∃ c,env.cells.lookup y.1=some c) →
   (forIn l acc fun x r=>if (x.2==NameKind.free)=true then do let a ←cellOf env x.1;pure (ForInStep.yield ((x.1,a)::r)) else pure (ForInStep.yield r):Sem (List (Str×Addr)))=pure (nK env l acc) by
  have:=hh scope.names [] h
  simp only[bind_pure]
  exact this
 intro l
 induction l with
 | nil=>intro acc _;rfl
 | cons y r ih =>
  intro acc hy
  obtain⟨n,k⟩:=y
  rw[List.forIn_cons]
  cases hk:(k==NameKind.free) with
  | true =>
   obtain⟨c,hc⟩:=hy (n,k) List.mem_cons_self (by simpa using hk)
   have e1:cellOf env n=pure c:=by unfold cellOf;rw[hc]
   simp only[hk,if_true,e1,pure_bind]
   rw[ih _ fun z hz=>hy z (List.mem_cons_of_mem _ hz)]
   simp only[nK,hk,if_true,hc,Option.getD_some]
  | false =>
   simp only[hk,Bool.false_eq_true,if_false,pure_bind]
   rw[ih _ fun z hz=>hy z (List.mem_cons_of_mem _ hz)]
   simp only[nK,hk,Bool.false_eq_true,if_false]
theorem Ag {env:Env}{x:Str}{c:Addr}:∀ {l:List (Str×NameKind)}{acc:List (Str×Addr)},(∀ y∈l,y.2=.free→∃ c,env.cells.lookup y.1=some c)→(acc.lookup x=some c→env.cells.lookup x=some c)→(nK env l acc).lookup x=some c→env.cells.lookup x=some c
 | [],_,_,ha,e=>ha e
 | (n,k)::r,acc,hl,ha,e=>by
  refine Ag (l:=r) (fun z hz=>hl z (List.mem_cons_of_mem _ hz)) (fun q=>?_) e
  cases hk:(k==NameKind.free) with
  | false=>rw[hk] at q;exact ha q
  | true =>
   rw[hk] at q
   obtain⟨c',hc⟩:=hl (n,k) List.mem_cons_self (by simpa using hk)
   simp only[if_true,hc,Option.getD_some,List.lookup_cons] at q
   cases hx:(x==n) with
   | true=>rw[hx] at q;cases q;rw[show x=n from by simpa using hx];exact hc
   | false=>rw[hx] at q;exact ha q
theorem C9 {env:Env}{x:Str}{c:Addr}:∀ {l:List (Str×NameKind)}{acc:List (Str×Addr)},(nK env l acc).lookup x=some c→acc.lookup x=some c∨(x,NameKind.free)∈l
 | [],_,e=>.inl e
 | (n,k)::r,acc,e=>by
  rcases C9 (l:=r) e with q | q
  ·cases hk:(k==NameKind.free) with
   | false=>rw[hk] at q;exact .inl q
   | true =>
    rw[hk] at q
    simp only[if_true,List.lookup_cons] at q
    cases hx:(x==n) with
    | true =>
     have e1:x=n:=by simpa using hx
     have e2:k=NameKind.free:=by simpa using hk
     subst e1 e2
     exact .inr List.mem_cons_self
    | false=>rw[hx] at q;exact .inl q
  ·exact .inr (List.mem_cons_of_mem _ q)
theorem wO {env:Env}{x:Str}:∀ {l:List (Str×NameKind)}{acc:List (Str×Addr)},(∃ c,acc.lookup x=some c)∨(x,NameKind.free)∈l→∃ c,(nK env l acc).lookup x=some c
 | [],_,h=>h.elim (fun z=>z) fun z=>nomatch z
 | (n,k)::r,acc,h=>by
  refine wO (l:=r) ?_
  rcases h with ⟨c,h⟩ | h
  ·refine .inl ?_
   cases hk:(k==NameKind.free) with
   | false=>exact⟨c,h⟩
   | true =>
    simp only[if_true,List.lookup_cons]
    cases hx:(x==n) with
    | true=>exact⟨_,rfl⟩
    | false=>exact⟨c,h⟩
  ·rcases List.mem_cons.mp h with h | h
   ·cases h
    refine .inl ?_
    rw[if_pos (by rfl),List.lookup_cons]
    exact⟨_,by rw[show (x==x)=true from by simp]⟩
   ·exact .inr h
theorem lookup_mem {α:Type}{x:Str}{k:α}:∀ {l:List (Str×α)},l.lookup x=some k→(x,k)∈l
 | (n,z)::r,e=>by
  rw[List.lookup_cons] at e
  cases hx:(x==n) with
  | true=>rw[hx] at e;cases e;rw[show x=n from by simpa using hx];exact List.mem_cons_self
  | false=>rw[hx] at e;exact List.mem_cons_of_mem _ (lookup_mem e)
theorem Ff (env:Env) (n:Str) (z:NameKind):∃ z',(if (z==NameKind.free&&env.scope.kind==.function&&env.kindOf n==some .cell)=true then (n,NameKind.cell) else (n,z))=(n,z')∧(z'=z∨(z=.free∧z'=.cell)):=by
 by_cases hc:(z==NameKind.free&&env.scope.kind==.function&&env.kindOf n==some .cell)=true
 ·rw[if_pos hc]
  simp only[Bool.and_eq_true] at hc
  exact⟨_,rfl,.inr ⟨by simpa using hc.1.1,rfl⟩⟩
 ·rw[if_neg hc];exact⟨_,rfl,.inl rfl⟩
theorem jx {env:Env}{x:Str}:∀ {l:List (Str×NameKind)}{k:NameKind},l.lookup x=some k →
  ((l.map fun (n,k)=>if (k==NameKind.free&&env.scope.kind==.function&&env.kindOf n==some .cell) then (n,NameKind.cell) else (n,k)).lookup x=some k) ∨
  (k=.free∧(l.map fun (n,k)=>if (k==NameKind.free&&env.scope.kind==.function&&env.kindOf n==some .cell) then (n,NameKind.cell) else (n,k)).lookup x=some .cell)
 | (n,z)::r,k,e=>by
  obtain⟨z',e1,e2⟩:=Ff env n z
  have ih:=fun h=>jx (env:=env) (x:=x) (l:=r) (k:=k) h
  rw[List.lookup_cons] at e
  rw[List.map_cons]
  dsimp only
  rw[e1,List.lookup_cons]
  cases hx:(x==n) with
  | true =>
   rw[hx] at e
   cases e
   rcases e2 with e2 | ⟨e2,e3⟩
   ·rw[e2];exact .inl rfl
   ·rw[e3];exact .inr ⟨e2,rfl⟩
  | false=>rw[hx] at e;exact ih e
theorem uY {env:Env}{x:Str}:∀ {l:List (Str×NameKind)},l.lookup x=none →
  (l.map fun (n,k)=>if (k==NameKind.free&&env.scope.kind==.function&&env.kindOf n==some .cell) then (n,NameKind.cell) else (n,k)).lookup x=none
 | [],_=>rfl
 | (n,z)::r,e=>by
  obtain⟨z',e1,e2⟩:=Ff env n z
  have ih:=fun h=>uY (env:=env) (x:=x) (l:=r) h
  rw[List.lookup_cons] at e
  rw[List.map_cons]
  dsimp only
  rw[e1,List.lookup_cons]
  cases hx:(x==n) with
  | true=>rw[hx] at e;cases e
  | false=>rw[hx] at e;exact ih e
structure br (N:List Str) (SM scope:Scope) (own cap:List Str) (ix:List Nat):Prop where
 kind:scope.kind=.function
 cell:∀ y∈scope.names,y.2≠.cell
 names:∀ y∈scope.names,y.2=.local→scope.names.lookup y.1=some .local
 free:∀ y∈scope.names,y.2=.free→y.1∈cap
 SN:∀ x∈own,scope.names.lookup x=some .local
 FN:∀ x∈cap,scope.names.lookup x=some .free
 out:∀ x∈cap,SM.names.lookup x=some .cell∨SM.names.lookup x=some .free
 QK:ix.map (fun i=>N[i]?)=cap.map some
 nd:(own++cap).Nodup
def Cx.comp (X:Cx) (scope:Scope) (own cap:List Str) (C:Addr) (s₀:Shared) (H₀:Hp) (ex:List Addr) (pn:List (Addr×Obj)):Cx :=
 { X with N:=own++cap,s₀:=s₀,H₀:=H₀,env:=compEnvC scope (nK X.env scope.names []) C X.env,outer:=X.stack,ex:=ex,fn:=fun x=>own.contains x,pn:=pn,xe:=fun _ _=>False }
def rm (σ:St) (own:List Str) (ix:List Nat):St:=own.map (fun _=>none)++ix.map (fun i=>(σ[i]?).join)
section
variable {X:Cx}{pins:List (Addr×Obj)}{σ:St}{H:Hp}{s:Shared}{scope:Scope}{own cap:List Str}{ix:List Nat}
theorem br.has (S:br X.N X.env.scope scope own cap ix) (ok:X.Ok):∀ y∈scope.names,y.2=.free→∃ c,X.env.cells.lookup y.1=some c:=fun y hy hf=>ok.has y.1 (S.out y.1 (S.free y hy hf))
theorem Inv.comp (I:Inv X pins σ H s) (S:br X.N X.env.scope scope own cap ix) {fp:List Addr} (hf:∀ b∈fp,Ab X pins H b) (ho:∀ b∈fp,∃ o,s.heap.get? b=some o)
  {h₁:Heap}{tk:Nat}{C:Addr}{m:Str→Option Value} (hC:s.heap.objs.size≤C) (old:∀ b o,s.heap.get? b=some o→h₁.get? b=some o) (RP:h₁.Ns C m) :
  Inv (X.comp scope own cap C s H fp (X.pn++pins)) [] (rm σ own ix) H { s with heap:=h₁,toks:=tk }:=by
 have cv:∀ x c,(nK X.env scope.names []).lookup x=some c→X.env.cells.lookup x=some c:=fun x c e=>Ag (S.has I.ok) (fun q=>by simp at q) e
 have cc:∀ x c,(nK X.env scope.names []).lookup x=some c→x∈cap:=fun x c e=>by
  rcases C9 e with q | q
  ·cases q
  ·exact S.free _ q rfl
 have kk:∀ x,((compEnvC scope (nK X.env scope.names []) C X.env).kindOf x=some .cell∨(compEnvC scope (nK X.env scope.names []) C X.env).kindOf x=some .free)→x∈cap:=fun x hx=>by
  cases e:scope.names.lookup x with
  | none =>
   have q:=uY (env:=X.env) e
   rcases hx with hx | hx
   ·have z4:_=some NameKind.cell:=hx
    exact nomatch q.symm.trans z4
   ·have z4:_=some NameKind.free:=hx
    exact nomatch q.symm.trans z4
  | some k =>
   have nc:k≠.cell:=S.cell _ (lookup_mem e)
   rcases jx (env:=X.env) e with q | ⟨q,_⟩
   ·rcases hx with hx | hx
    ·have z4:_=some NameKind.cell:=hx
     exact absurd (Option.some.inj (q.symm.trans z4)) nc
    ·have z4:_=some NameKind.free:=hx
     exact S.free _ (lookup_mem e) (Option.some.inj (q.symm.trans z4))
   ·exact S.free _ (lookup_mem e) q
 have QL:∀ x∈cap,(compEnvC scope (nK X.env scope.names []) C X.env).kindOf x=some .cell∨(compEnvC scope (nK X.env scope.names []) C X.env).kindOf x=some .free:=fun x hx=>by
  rcases jx (env:=X.env) (S.FN x hx) with q | ⟨_,q⟩
  ·exact .inr q
  ·exact .inl q
 have lt:∀ {b:Addr}{o:Obj},s.heap.get? b=some o→b≠C:=fun e=>Nat.ne_of_lt (Nat.lt_of_lt_of_le (Heap.lt_size e) hC)
 have Le:∀ b,b∈uD X.stack→b∈X.env.locals::X.fs:=I.wG
 refine⟨⟨I.ok.mod,S.kind,I.ok.glob,I.ok.blt,hC,fun x y c e1 e2=>I.ok.inj x y c (cv x c e1) (cv y c e2),fun x hx=>wO (.inr (lookup_mem (S.FN x (kk x hx)))),fun x c hx e=>?_,I.ok.hd,I.ok.frames,.inl rfl,fun b hb=>?_,
  I.bs,Nat.le_trans I.ok.KZ I.sz,fun b o e hb=>?_,fun b hb VE=>?_,I.stack,I.CM⟩,rfl,I.bare,Un.kept old,?_,fun x c e=>?_,I.d4.fresh hC,fun x c e=>I.uF x c (cv x c e),fun p hp=>?_,I.d4.kept old,?_⟩
 ·exfalso
  have h1:x∈own:=by simpa [Cx.comp] using hx
  have h2:x∈cap:=cc x c e
  exact (List.nodup_append.mp S.nd).2.2 x h1 x h2 rfl
 ·obtain⟨o,e⟩:=ho b hb
  exact⟨lt e,fun x c q=>(hf b hb).2.2.2.2.1 x c (cv x c q)⟩
 ·rcases (hf b hb).2.2.2.1 with z | z
  ·exact I.ok.IP b o e z
  ·exact absurd (Nat.lt_of_lt_of_le (Heap.lt_size e) (Nat.le_trans I.ok.KZ z)) (Nat.lt_irrefl _)
 ·rcases List.mem_cons.mp (Le b VE) with z | z
  ·exact (hf b hb).2.1 z
  ·exact (hf b hb).2.2.1 z
 ·refine⟨m,RP,fun i x v e1 e2 _=>?_⟩
  by_cases hi:i<own.length
  ·have e3:(rm σ own ix)[i]? = some none:=by
    unfold rm
    rw[List.getElem?_append_left (by simpa using hi),List.getElem?_map]
    rw[List.getElem?_eq_getElem hi];rfl
   rw[e3] at e2;cases e2
  ·have hj:own.length≤i:=Nat.not_lt.mp hi
   have SO:cap[i-own.length]? = some x:=by
    have:(own++cap)[i]? = some x:=e1
    rwa [List.getElem?_append_right hj] at this
   have e4:(ix.map (fun i=>X.N[i]?))[i-own.length]? = some (some x):=by rw[S.QK,List.getElem?_map,SO];rfl
   rw[List.getElem?_map] at e4
   cases q:ix[i-own.length]? with
   | none=>rw[q] at e4;cases e4
   | some j =>
    rw[q] at e4
    have VF:X.N[j]? = some x:=Option.some.inj e4
    have e5:(σ[j]?).join=some v:=by
     unfold rm at e2
     rw[List.getElem?_append_right (by simpa using hj),List.getElem?_map,List.length_map,q] at e2
     exact Option.some.inj e2
    have e6:σ[j]? = some (some v):=by
     cases r:σ[j]? with
     | none=>rw[r] at e5;cases e5
     | some z=>rw[r] at e5;exact congrArg some e5
    have hx:x∈cap:=List.mem_of_getElem? SO
    obtain⟨mo,hn,hl⟩:=I.loc
    obtain⟨u,ru,lu⟩:=hl j x v VF e6 (.inr (S.out x hx))
    refine⟨u,ru,.inr ⟨QL x hx,?_⟩⟩
    rcases lu with ⟨kx,_⟩ | ⟨_,c,hc,BQ⟩
    ·have SQ : X.env.scope.names.lookup x = some .local := kx
     rcases S.out x hx with z | z
     ·exact nomatch SQ.symm.trans z
     ·exact nomatch SQ.symm.trans z
    ·obtain⟨c',LJ⟩:=wO (env:=X.env) (x:=x) (l:=scope.names) (acc:=[]) (.inr (lookup_mem (S.FN x hx)))
     have:c'=c:=Option.some.inj ((cv x c' LJ).symm.trans hc)
     subst this
     obtain⟨oc,E3,OU⟩:=BQ
     exact⟨c',LJ,oc,old _ _ E3,OU⟩
 ·obtain⟨v,oc,E3,OU⟩:=I.cell x c (cv x c e)
  exact⟨v,oc,old _ _ E3,OU⟩
 ·have yK:p∈X.pn++pins:=by simpa [Cx.comp] using hp
  obtain⟨q1,q2,q3,q4,q5⟩:=I.pin p yK
  refine⟨old _ _ q1,q2,lt q1,fun z=>?_,q5⟩
  rcases List.mem_cons.mp (Le p.1 z) with y | y
  ·exact q3 y
  ·exact q4 y
 ·show (rm σ own ix).length=(own++cap).length
  have:=congrArg List.length S.QK
  rw[List.length_map,List.length_map] at this
  unfold rm
  rw[List.length_append,List.length_append,List.length_map,List.length_map,this]
end
def Hj (X:Cx) (ifs:List Expr) (t:TT):Prop :=
 ∀ (pins:List (Addr×Obj)) (s:Shared) (σ:St) (H:Hp) (Q:Bool→Hp→Prop),Inv X pins σ H s→t σ H Q →
  wpAny (model X.prog X.w) X.A (forIn ifs true fun c r=>if r=true then do let ok ←isTrue c X.env (eval c X.env);pure (ForInStep.yield ok) else pure (ForInStep.yield r)) (TP X pins σ Q) X.xe s
def wQ:TT:=fun _ H Q=>Q true H
theorem fh {X:Cx}:Hj X [] wQ:=fun _ _ _ H _ I h=>wpAny_tests_nil ⟨H,I,h⟩
theorem wR {X:Cx}{c:Expr}{t:TT} (h:PT X c t):Hj X [c] t:=fun pins s σ H Q I q=>wpAny_tests_one (h pins s σ H Q I q)
def sT (own:List Str) (ix:List Nat) (wi:TI) (g:TG) (ti:TT) (te:TE):TE:=fun σ H Q=>wi σ H fun J H1 =>
 ∃ W:Nat→Nat→List V→St→Hp→Prop,(∃ m,W 0 m [] (rm σ own ix) H1)∧∀ i m ys σ' H,W i m ys σ' H →
  (J.stop i H∧ys.length≤sizeLine∧∀ D,H D=none→Q (.ref D) (upd H D (.lst ys))) ∨
  (J.go i H∧∀ x H',J.IH i H x H'→g x σ' H' fun σ2 H2=>ti σ2 H2 fun b H3=>if b=true then te σ2 H3 fun y H4=>ys.length<sizeLine∧∃ m',m'<m∧W (i+1) m' (ys++[y]) σ2 H4 else ∃ m',m'<m∧W (i+1) m' ys σ2 H3)
section
variable {X:Cx}{pins:List (Addr×Obj)}{σ:St}{scope:Scope}{own cap:List Str}{ix:List Nat}{tg iter elt:Expr}{ifs:List Expr}{pos:Pos}
set_option maxHeartbeats 4000000 in
theorem Dc {s:Shared}{H:Hp}{it:Addr}{fp:List Addr}{tn:Nat→Heap→Prop}{J:It}{g:TG}{ti:TT}{te:TE}{Q:VK}{W:Nat→Nat→List V→St→Hp→Prop}{E:Value→Shared→Prop}{RR:Value→Addr→Result→Shared→Prop} (hc:X.calm=true)
  (I:Inv X pins σ H s) (S:br X.N X.env.scope scope own cap ix) (T:Turn X.prog X.w X.K tg J fp it tn) (st:tn 0 s.heap) (hf:∀ b∈fp,Ab X pins H b)
  (hb:∀ (C:Addr) (s₀:Shared) (H₀:Hp) (ex:List Addr) (pn:List (Addr×Obj)),PG (X.comp scope own cap C s₀ H₀ ex pn) tg g∧Hj (X.comp scope own cap C s₀ H₀ ex pn) ifs ti∧PE (X.comp scope own cap C s₀ H₀ ex pn) elt te)
  (h0:∃ m,W 0 m [] (rm σ own ix) H)
  (turn:∀ i m ys σ' H,W i m ys σ' H→(J.stop i H∧ys.length≤sizeLine∧∀ D,H D=none→Q (.ref D) (upd H D (.lst ys))) ∨
   (J.go i H∧∀ x H',J.IH i H x H'→g x σ' H' fun σ2 H2=>ti σ2 H2 fun b H3=>if b=true then te σ2 H3 fun y H4=>ys.length<sizeLine∧∃ m',m'<m∧W (i+1) m' (ys++[y]) σ2 H4 else ∃ m',m'<m∧W (i+1) m' ys σ2 H3))
  (VG:∀ (D C:Addr) (oC:Obj) (m:Str→Option Value) (H':Hp) (s':Shared),s'.heap.get? C=some oC→s'.heap.Ns C m→C≠X.env.locals→(X.s₀.heap.objs.size≤C)→(∀ x c,X.env.cells.lookup x=some c→c≠C)→(∀ p∈X.pn++pins,p.1≠C)→C∉X.fs→H' C=none →
   Inv X pins σ H' s'→Q (.ref D) H'→RR (.ref D) C (.ok .next) s') :
  wpAny (model X.prog X.w) X.A (newList []) (fun acc s₃=>wpAny (model X.prog X.w) X.A (newFunctionEnv scope X.env.globals (nK X.env scope.names []) [] X.env.qual none .none (some X.env)) (fun Nh s₄ =>
   codeAny (model X.prog X.w) X.A (.compStart (.ListComp elt [⟨tg,iter,ifs,0⟩] scope pos) 0 (.ref it) acc { Nh with scope:=relabel scope X.env }) (RR acc Nh.locals) s₄) E s₃) E s:=by
 refine wpAny_newObj_type (wpAny_newFunctionEnv S.cell (by intro y hy;simp at hy) (fun h₁ Hk Ni=>?_) S.kind)
 dsimp only at Hk Ni ⊢
 generalize QM:s.heap.push { cls:=.type "list",dict:=none,data:=.seq ([]:List Value).toArray }=HH at Hk Ni ⊢
 generalize SR:HH.objs.size=C at Hk Ni ⊢
 generalize MH:s.heap.objs.size=D
 have hC:C=D+1:=by rw[←SR,←QM,Heap.size_push,MH]
 have Pt:D≠C:=by rw[hC];exact Nat.ne_of_lt (Nat.lt_succ_self _)
 have below:∀ b,b<s.heap.objs.size→b≠C∧b≠D:=fun b hb=>by rw[MH] at hb;exact⟨by rw[hC];exact Nat.ne_of_lt (Nat.lt_succ_of_lt hb),Nat.ne_of_lt hb⟩
 have old:∀ b o,s.heap.get? b=some o→h₁.get? b=some o:=fun b o e=>Ni.extBut b o (below b (Heap.lt_size e)).1 (Heap.get?_push_of_some _ (QM▸Heap.get?_push_of_some _ e))
 have QN:h₁.get? D=some { cls:=.type "list",data:=.seq ([]:List Value).toArray 0 }:=Ni.extBut _ _ Pt (Heap.get?_push_of_some _ (by rw[←QM,←MH];exact Heap.get?_push_size _ rfl))
 have L5:s.heap.objs.size≤C:=by rw[MH,hC];exact Nat.le_succ _
 have Nj:s.heap.objs.size≤D:=Nat.le_of_eq MH
 have SS:D∉fp:=fun hm=>by
  obtain⟨o,e,_⟩:=T.obj _ _ st D hm
  exact (below D (Heap.lt_size e)).2 rfl
 have RS:H D=none:=I.d4.fresh Nj
 obtain⟨gG,gI,gE⟩:=hb C s H fp (X.pn++pins)
 have I0:∀ tk,Inv (X.comp scope own cap C s H fp (X.pn++pins)) [] (rm σ own ix) H { s with heap:=h₁,toks:=tk }:=fun tk=>I.comp S hf (fun b hb=>(T.obj _ _ st b hb).imp fun o e=>e.1) L5 old Hk
 have SU:∀ x c,(X.comp scope own cap C s H fp (X.pn++pins)).env.cells.lookup x=some c→X.env.cells.lookup x=some c:=fun x c e=>Ag (S.has I.ok) (fun q=>by simp at q) e
 have De:∀ x c,X.env.cells.lookup x=some c→c<s.heap.objs.size:=fun x c e=>by obtain⟨v,q⟩:=I.cell x c e;exact q.lt
 have Nk:∀ b∈uD X.stack,b<s.heap.objs.size:=fun b hb=>by
  rcases List.mem_cons.mp (I.wG b hb) with z | z
  ·rw[z];exact I.lt
  ·obtain⟨_,o,ho,_⟩:=I.uV.mem z
   exact Heap.lt_size ho
 have QO:∀ (H':Hp) (ps:List (Addr×Obj)),(∀ p∈ps,p.1=D)→(∀ b∈fp,H' b=none)→∀ b∈fp,Ab (X.comp scope own cap C s H fp (X.pn++pins)) ps H' b:=fun H' ps Ex hn b hb=>by
  obtain⟨o,e,_⟩:=T.obj _ _ st b hb
  obtain⟨f0,f1,f2,f3,f4,f5⟩:=hf b hb
  refine⟨hn b hb,(below b (Heap.lt_size e)).1,fun z=>?_,.inl hb,fun x c q=>f4 x c (SU x c q),fun p hp=>?_⟩
  ·rcases List.mem_cons.mp (I.wG b z) with y | y
   ·exact f1 y
   ·exact f2 y
  ·rcases List.mem_append.mp hp with z | z
   ·exact f5 p z
   ·intro y
    exact SS (by rw[←Ex p z,y];exact hb)
 have QP:∀ {H':Hp}{σ':St}{s':Shared}{o:Obj},Inv (X.comp scope own cap C s H fp (X.pn++pins)) [] σ' H' s'→s'.heap.get? D=some o→(∀ v,o.data≠.cell v)→H' D=none→Inv (X.comp scope own cap C s H fp (X.pn++pins)) [(D,o)] σ' H' s':=fun {H' σ' s' o} I' e hd hn =>
  I'.qK fun p hp=>by
   have e1:p=(D,o):=by simpa using hp
   subst e1
   exact⟨e,hn,Pt,fun z=>Nat.lt_irrefl _ (Nat.lt_of_lt_of_le (Nk D z) Nj),hd⟩
 have loop:∀ s₃:Shared,s₃={ s with heap:=h₁,toks:=s.toks+([]:List (Str×Value)).length } →
   codeAny (model X.prog X.w) X.A (.compLoop (.ListComp elt [⟨tg,iter,ifs,0⟩] scope pos) 0 (.ref it) (.ref D) (compEnvC scope (nK X.env scope.names []) C X.env)) (RR (.ref D) C) s₃:=by
  rintro s₃ rfl
  obtain⟨m0,w0⟩:=h0
  refine BW (fun n s'=>∃ i ys σ' H',Inv (X.comp scope own cap C s H fp (X.pn++pins)) [] σ' H' s'∧tn i s'.heap∧(∀ b∈fp,H' b=none)∧H' D=none ∧
   (∃ (bF:List Value) (k:Nat),Vals ys bF∧s'.heap.get? D=some { cls:=.type "list",data:=.seq bF.toArray k })∧ys.length≤sizeLine∧W i n ys σ' H') ?_ m0
   ⟨0,[],_,H,I0 _,T.keep _ _ _ st fun b _ o e=>old b o e,fun b hb=>(hf b hb).1,RS,⟨[],0,.nil,QN⟩,Nat.zero_le _,w0⟩
  rintro n s' ⟨i,ys,σ',H',I',G8,SV,IJ,⟨bF,k,hv,VH⟩,QQ,w'⟩
  have ID:=QP I' VH (fun v q=>nomatch q) IJ
  rcases turn i n ys σ' H' w' with ⟨stop,hz,q⟩ | ⟨go,step⟩
  ·refine gZ (T.done (X.comp scope own cap C s H fp (X.pn++pins)) rfl rfl rfl hc i [(D,_)] s' σ' H' _ ID (QO H' _ (fun p hp=>by rw[List.mem_singleton.mp hp]) SV) G8 stop) fun r FD ⟨hr,I2⟩=>?_
   subst hr
   show RR (.ref D) C (.ok .next) FD
   have QR:FD.heap.get? D=some { cls:=.type "list",data:=.seq bF.toArray k }:=(I2.pin (D,_) (List.mem_append_right _ (List.mem_singleton.mpr rfl))).1
   obtain⟨m2,LR,_⟩:=I2.loc
   obtain⟨oC,es,ep,OV,_⟩:=id LR
   have QS:wg X.prog X.w (upd H' D (.lst ys)) FD.heap:=I2.d4.Ld IJ ⟨QQ,bF,k,hv,QR⟩
   have un:Un (uD X.stack) fp H (upd H' D (.lst ys)) s.heap FD.heap:=by
    have u0:Un (uD X.stack) fp H H' s.heap FD.heap:=I2.base
    refine⟨u0.keep,u0.slot,fun b o e hn hx=>?_,u0.there,fun b xs e=>?_,fun b o u e=>?_,fun b ps e=>?_⟩
    ·rw[aF (below b (Heap.lt_size e)).2];exact u0.free b o e hn hx
    ·rw[aF (aG (u0.iz b xs e) IJ)];exact u0.iz b xs e
    ·rw[aF (aG (u0.sO b o u e) IJ)];exact u0.sO b o u e
    ·obtain⟨more,e'⟩:=u0.uU b ps e
     exact⟨more,by rw[aF (aG e' IJ)];exact e'⟩
   have IX:Inv X pins σ (upd H' D (.lst ys)) FD:=I.Pm (ch:=fp) I2.os un QS I2.bare fun b hb=>⟨(hf b hb).2.2.2.1,(hf b hb).2.1,(hf b hb).2.2.2.2.1,(hf b hb).2.2.2.2.2⟩
   refine VG D C oC m2 _ FD OV LR ?_ ?_ (fun x c e z=>?_) (fun p hp z=>?_) (fun z=>?_) ?_ IX (q D IJ)
   ·exact fun z=>Nat.lt_irrefl _ (Nat.lt_of_lt_of_le I.lt (by rw[←z];exact L5))
   ·exact Nat.le_trans I.sz L5
   ·exact Nat.lt_irrefl _ (Nat.lt_of_lt_of_le (De x c e) (by rw[z];exact L5))
   ·exact Nat.lt_irrefl _ (Nat.lt_of_lt_of_le (Heap.lt_size (I.pin p hp).1) (by rw[z];exact L5))
   ·obtain⟨_,o,ho,_⟩:=I.uV.mem z
    exact Nat.lt_irrefl _ (Nat.lt_of_lt_of_le (Heap.lt_size ho) L5)
   ·rw[aF Pt.symm];exact I2.free
  ·refine gZ (T.item (X.comp scope own cap C s H fp (X.pn++pins)) rfl rfl rfl hc i [(D,_)] s' σ' H' _ ID (QO H' _ (fun p hp=>by rw[List.mem_singleton.mp hp]) SV) G8 go) fun r s4 ⟨u,hr,h4⟩=>?_
   subst hr
   refine gZ h4 fun _ s5 ⟨x,H5,I5,r5,y5,MY,Ss⟩=>?_
   have VI:=I5.pin (D,_) (List.mem_append_right _ (List.mem_singleton.mpr rfl))
   have Sv:=I5.pinned (QO H5 _ (fun p hp=>by rw[List.mem_singleton.mp hp]) Ss) (T.obj _ _ MY)
   refine gZ (gG _ s5 σ' H5 x u _ Sv r5 (step x H5 y5)) fun _ s6 ⟨σ6,H6,I6,q6⟩=>?_
   refine gZ (gI _ s6 σ6 H6 _ I6 q6) fun ok s7 ⟨H7,I7,q7⟩=>?_
   have SW:∀ {σ8:St}{H8:Hp}{s8:Shared},Inv (X.comp scope own cap C s H fp (X.pn++pins)) ([(D,({ cls:=.type "list",data:=.seq bF.toArray k }:Obj))]++wI fp s5.heap) σ8 H8 s8→tn (i+1) s8.heap∧(∀ b∈fp,H8 b=none):=fun {σ8 H8 s8} I8=>by
    refine⟨T.keep _ _ _ MY fun b hb o e=>(I8.pin (b,o) (List.mem_append_right _ (List.mem_append_right _ (oQ hb e)))).1,fun b hb=>?_⟩
    obtain⟨o,e,d⟩:=T.obj _ _ MY b hb
    exact (I8.pin (b,o) (List.mem_append_right _ (List.mem_append_right _ (oQ hb e)))).2.1
   have dK:∀ {σ8:St}{H8:Hp}{s8:Shared},Inv (X.comp scope own cap C s H fp (X.pn++pins)) ([(D,({ cls:=.type "list",data:=.seq bF.toArray k }:Obj))]++wI fp s5.heap) σ8 H8 s8→s8.heap.get? D=some { cls:=.type "list",data:=.seq bF.toArray k }∧H8 D=none:=fun {σ8 H8 s8} I8=>by
    have z:=I8.pin (D,_) (List.mem_append_right _ (List.mem_append_left _ (List.mem_singleton.mpr rfl)))
    exact⟨z.1,z.2.1⟩
   cases ok with
   | false =>
    obtain⟨m',hm,w7⟩:=q7
    obtain⟨VJ,VL⟩:=SW I7
    obtain⟨VM,Nl⟩:=dK I7
    exact⟨m',hm,i+1,ys,σ6,H7,I7.qK (fun p hp=>nomatch hp),VJ,VL,Nl,⟨bF,k,hv,VM⟩,QQ,w7⟩
   | true =>
    refine gZ (gE _ s7 σ6 H7 _ I7 q7) fun xv s8 ⟨y,H8,I8,r8,SX,m',hm,w8⟩=>?_
    obtain⟨VN,VO⟩:=SW I8
    obtain⟨VP,SY⟩:=dK I8
    refine append_at (hsz:=by rw[List.size_toArray,←hv.length];exact Nat.le_of_lt SX) VP fun h9 S0 VQ=>?_
    have I9:Inv (X.comp scope own cap C s H fp (X.pn++pins)) [] σ6 H8 { s8 with heap:=h9 }:=by
     refine (I8.qK (pins':=[]) fun p hp=>nomatch hp).turned (t':=s8.toks) (it:=D) (fun b o hb e=>S0.extBut b o hb e) SY Pt (.inr Nj) (fun x c e z=>?_) (fun p hp z=>?_)
     ·exact Nat.lt_irrefl _ (Nat.lt_of_lt_of_le (De x c (SU x c e)) (by rw[z];exact Nj))
     ·have yK:p∈X.pn++pins:=by simpa [Cx.comp] using hp
      exact Nat.lt_irrefl _ (Nat.lt_of_lt_of_le (Heap.lt_size (I.pin p yK).1) (by rw[z];exact Nj))
    refine⟨m',hm,i+1,ys++[y],σ6,H8,I9,T.keep _ _ _ VN fun b hb o e=>S0.extBut b o (fun z=>SS (by rw[←z];exact hb)) e,VO,SY,⟨bF++[xv],k+1,hv.append (.cons r8 .nil),?_⟩,by rw[List.length_append,List.length_singleton];exact SX,w8⟩
    rw[VQ,List.push_toArray]
 exact codeAny_compStart_list (loop _ rfl) (T.self _ 0 _ _ _ (T.keep _ _ _ st fun b _ o e=>old b o e) (loop _ rfl))
theorem fP {wi:TI}{g:TG}{ti:TT}{te:TE} (hc:X.calm=true) (S:br X.N X.env.scope scope own cap ix) (hi:PI X tg iter wi)
  (hb:∀ (C:Addr) (s₀:Shared) (H₀:Hp) (ex:List Addr) (pn:List (Addr×Obj)),PG (X.comp scope own cap C s₀ H₀ ex pn) tg g∧Hj (X.comp scope own cap C s₀ H₀ ex pn) ifs ti∧PE (X.comp scope own cap C s₀ H₀ ex pn) elt te)
  (hs:∀ x,foldedSetIterable iter X.env x=pure x:=by intro _;rfl):PE X (.ListComp elt [⟨tg,iter,ifs,0⟩] scope pos) (sT own ix wi g ti te):=by
 intro pins s σ H Q I h
 rw[eval_ListComp]
 refine wpAny_comprehension_free (use:=none) rfl hs (qv (S.has I.ok)) S.kind S.names (gZ (hi pins s σ H _ I h) fun xv s₁ h₁=>gZ h₁ fun Sr s₂ h₂=>?_)
 obtain⟨it,fp,tn,J,H2,e,I2,T,IU,f2,W,h0,turn⟩:=h₂
 subst e
 refine Dc (Q:=Q) (RR:=fun acc C=>compPost (model X.prog X.w) X.A X.xe none (EP X pins σ Q) acc C) hc I2 S T IU f2 hb h0 turn ?_
 intro D C oC m H' s' OV hn h1 h2 h3 h4 h5 h6 I' q
 refine⟨m,hn,fun h' Pu=>⟨.ref D,H',I'.turned (t':=s'.toks) (it:=C) (fun b o hb e=>Pu.extBut b o hb e) h6 (Ne.symm h1.symm) (.inr h2) h3 h4,rfl,q⟩⟩
theorem Lf {wi:TI}{g:TG}{ti:TT}{te:TE}{i:Nat}{y:Str}{py S4:Pos} (hc:X.calm=true) (hN:X.N.Nodup) (hy:X.N[i]? = some y) (hx:Loc X.env.scope y) (S:br X.N X.env.scope scope own cap ix) (hi:PI X tg iter wi)
  (hb:∀ (C:Addr) (s₀:Shared) (H₀:Hp) (ex:List Addr) (pn:List (Addr×Obj)),PG (X.comp scope own cap C s₀ H₀ ex pn) tg g∧Hj (X.comp scope own cap C s₀ H₀ ex pn) ifs ti∧PE (X.comp scope own cap C s₀ H₀ ex pn) elt te)
  (YK:swapsWith (.ListComp elt [⟨tg,iter,ifs,0⟩] scope pos) (some (.Name y py)) S4.line X.env=pure true:=by rfl)
  (hs : ∀ x, foldedSetIterable iter X.env x = pure x := by intro _; rfl) (hf : X.fn y = true ∨ X.env.scope.names.lookup y = some .local := by first | exact .inl rfl | exact .inr rfl | assumption) :
  PS X (.Assign [.Name y py] (.ListComp elt [⟨tg,iter,ifs,0⟩] scope pos) S4) (tAsg (sT own ix wi g ti te) (gName i)):=by
 intro pins s σ H D I h
 rw[exec_Assign_Name_used _ _ _ _ YK]
 refine wpAny_bind (wpAny_standAt (wpAny_bind ?_))
 show wpAny _ X.A (do let _ ←comprehension (.ListComp elt [⟨tg,iter,ifs,0⟩] scope pos) scope X.env _ (newList []) false (eval iter X.env) (some (assign (.Name y py) X.env))) _ _ s
 refine wpAny_bind (wpAny_mono (wpAny_comprehension_free (use:=some (assign (.Name y py) X.env)) (Q:=fun _ s'=>SP X pins D .next s') rfl hs (qv (S.has I.ok)) S.kind S.names
  (gZ (hi pins s σ H _ I h) fun xv s₁ h₁=>gZ h₁ fun Sr s₂ h₂=>?_)) (fun _ s' hq=>wpAny_pure (wpAny_pure hq)) fun _ _ e=>e)
 obtain⟨it,fp,tn,J,H2,e,I2,T,IU,f2,W,h0,turn⟩:=h₂
 subst e
 refine Dc (Q:=fun x H1=>gName i x σ H1 D.nx) (RR:=fun acc C=>compPost (model X.prog X.w) X.A X.xe (some (assign (.Name y py) X.env)) (fun _ s'=>SP X pins D .next s') acc C) hc I2 S T IU f2 hb h0 turn ?_
 intro Da C oC m H' s' OV hn h1 h2 h3 h4 h5 h6 I' q
 have OU:∀ v,oC.data≠.cell v:=fun v z=>by
  obtain⟨o',es,ep,CV,Et,_⟩:=hn
  rw[OV] at CV;cases CV;rw[Et] at z;cases z
 have Ip:Inv X (pins++[(C,oC)]) σ H' s':=I'.qK fun p hp=>by
  rcases List.mem_append.mp hp with z | z
  ·exact I'.pin p (List.mem_append_right _ z)
  ·have e1:p=(C,oC):=by simpa using z
   subst e1
   exact⟨OV,h6,h1,h5,OU⟩
 show wpAny _ X.A (assign (.Name y py) X.env (.ref Da)) _ _ _
 refine wpAny_assign_Name (z5 (v:=.ref Da) Ip hN hy hx rfl (fun s2 I3=>?_) hf)
 have pc:=I3.pin (C,oC) (List.mem_append_right _ (List.mem_append_right _ (by simp)))
 obtain⟨o',es,ep,CV,r'⟩:=hn
 rw[OV] at CV;cases CV
 refine⟨m,⟨oC,es,ep,pc.1,r'⟩,fun h' Pu=>⟨_,H',(Inv.Ac I3).turned (t':=s2.toks) (it:=C) (fun b o hb e=>Pu.extBut b o hb e) h6 h1 (.inr h2) h3 h4,q⟩⟩
end
theorem L6 {K:PySem.W.Frag}{a:Addr}{xs:List V}{x0:Str}{ix:List Nat}{ti:TT}{te:TE}{Q:VK}{σ:St}{H:Hp} (Pv:Nat→List V→Hp→Prop) (h0:Pv 0 [] H) (hl:∀ i ys H,i≤xs.length→Pv i ys H→bA K H a xs)
  (hs:∀ i x ys H (R:List V→Hp→Prop),xs[i]? = some x→Pv i ys H→(∀ mU H',Pv (i+1) mU H'→R mU H')→ti (some x::ix.map fun j=>(σ[j]?).join) H fun b H3=>if b=true then te (some x::ix.map fun j=>(σ[j]?).join) H3 fun y H4=>ys.length<sizeLine∧R (ys++[y]) H4 else R ys H3)
  (hd:∀ ys H,Pv xs.length ys H→ys.length≤sizeLine∧∀ D,H D=none→Q (.ref D) (upd H D (.lst ys))) :
  ∃ W:Nat→Nat→List V→St→Hp→Prop,(∃ m,W 0 m [] (rm σ [x0] ix) H)∧∀ i m ys σ' H,W i m ys σ' H →
   ((G7 K a).stop i H∧ys.length≤sizeLine∧∀ D,H D=none→Q (.ref D) (upd H D (.lst ys))) ∨
   ((G7 K a).go i H∧∀ x H',(G7 K a).IH i H x H'→gName 0 x σ' H' fun σ2 H2=>ti σ2 H2 fun b H3=>if b=true then te σ2 H3 fun y H4=>ys.length<sizeLine∧∃ m',m'<m∧W (i+1) m' (ys++[y]) σ2 H4 else ∃ m',m'<m∧W (i+1) m' ys σ2 H3):=by
 refine⟨fun i m ys σ' H=>m=xs.length-i∧i≤xs.length∧(∃ o,σ'=o::ix.map fun j=>(σ[j]?).join)∧Pv i ys H,⟨xs.length,by simp,Nat.zero_le _,⟨none,rfl⟩,h0⟩,?_⟩
 rintro i m ys σ' H ⟨rfl,hi,⟨o,rfl⟩,p⟩
 have q:=hl i ys H hi p
 by_cases qt:i<xs.length
 ·refine .inr ⟨⟨xs,xs[i],q,by simp [qt]⟩,fun x H' y=>?_⟩
  obtain⟨e,y⟩:=y
  subst e
  exact hs i x ys _ (fun mU H4=>∃ m',m'<xs.length-i∧m'=xs.length-(i+1)∧i+1≤xs.length∧(∃ o',some x::(ix.map fun j=>(σ[j]?).join)=o'::ix.map fun j=>(σ[j]?).join)∧Pv (i+1) mU H4) (y xs q) p
   fun mU H4 z=>⟨xs.length-(i+1),by omega,rfl,qt,⟨_,rfl⟩,z⟩
 ·have e:i=xs.length:=by omega
  subst e
  exact .inl ⟨⟨xs,q,Nat.le_refl _⟩,hd ys H p⟩
theorem Nm {z:Str}{x0:Str}{ix:List Nat}{ti:TT}{te:TE}{Q:VK}{σ:St}{H:Hp} (Pv:Nat→List V→Hp→Prop) (h0:Pv 0 [] H)
  (hs:∀ i c ys H (R:List V→Hp→Prop),z.cps[i]? = some c→Pv i ys H→(∀ mU H',Pv (i+1) mU H'→R mU H')→ti (some (.str ⟨#[c]⟩)::ix.map fun j=>(σ[j]?).join) H fun b H3=>if b=true then te (some (.str ⟨#[c]⟩)::ix.map fun j=>(σ[j]?).join) H3 fun y H4=>ys.length<sizeLine∧R (ys++[y]) H4 else R ys H3)
  (hd:∀ ys H,Pv z.cps.size ys H→ys.length≤sizeLine∧∀ D,H D=none→Q (.ref D) (upd H D (.lst ys))) :
  ∃ W:Nat→Nat→List V→St→Hp→Prop,(∃ m,W 0 m [] (rm σ [x0] ix) H)∧∀ i m ys σ' H,W i m ys σ' H →
   ((RQ z).stop i H∧ys.length≤sizeLine∧∀ D,H D=none→Q (.ref D) (upd H D (.lst ys))) ∨
   ((RQ z).go i H∧∀ x H',(RQ z).IH i H x H'→gName 0 x σ' H' fun σ2 H2=>ti σ2 H2 fun b H3=>if b=true then te σ2 H3 fun y H4=>ys.length<sizeLine∧∃ m',m'<m∧W (i+1) m' (ys++[y]) σ2 H4 else ∃ m',m'<m∧W (i+1) m' ys σ2 H3):=by
 refine⟨fun i m ys σ' H=>m=z.cps.size-i∧i≤z.cps.size∧(∃ o,σ'=o::ix.map fun j=>(σ[j]?).join)∧Pv i ys H,⟨z.cps.size,by simp,Nat.zero_le _,⟨none,rfl⟩,h0⟩,?_⟩
 rintro i m ys σ' H ⟨rfl,hi,⟨o,rfl⟩,p⟩
 by_cases qt:i<z.cps.size
 ·refine .inr ⟨qt,fun x H' y=>?_⟩
  obtain⟨e,c,hc,rfl⟩:=y
  subst e
  exact hs i c ys _ (fun mU H4=>∃ m',m'<z.cps.size-i∧m'=z.cps.size-(i+1)∧i+1≤z.cps.size∧(∃ o',some (V.str ⟨#[c]⟩)::(ix.map fun j=>(σ[j]?).join)=o'::ix.map fun j=>(σ[j]?).join)∧Pv (i+1) mU H4) hc p
   fun mU H4 q=>⟨z.cps.size-(i+1),by omega,rfl,qt,⟨_,rfl⟩,q⟩
 ·have e:i=z.cps.size:=by omega
  subst e
  exact .inl ⟨rfl,hd ys H p⟩
theorem Jj {lo:Int}{n:Nat}{x0:Str}{ix:List Nat}{ti:TT}{te:TE}{Q:VK}{σ:St}{H:Hp} (Pv:Nat→List V→Hp→Prop) (h0:Pv 0 [] H)
  (hs:∀ i ys H (R:List V→Hp→Prop),i<n→Pv i ys H→(∀ mU H',Pv (i+1) mU H'→R mU H')→ti (some (.int (lo+i))::ix.map fun j=>(σ[j]?).join) H fun b H3=>if b=true then te (some (.int (lo+i))::ix.map fun j=>(σ[j]?).join) H3 fun y H4=>ys.length<sizeLine∧R (ys++[y]) H4 else R ys H3)
  (hd:∀ ys H,Pv n ys H→ys.length≤sizeLine∧∀ D,H D=none→Q (.ref D) (upd H D (.lst ys))) :
  ∃ W:Nat→Nat→List V→St→Hp→Prop,(∃ m,W 0 m [] (rm σ [x0] ix) H)∧∀ i m ys σ' H,W i m ys σ' H →
   ((Fz lo n).stop i H∧ys.length≤sizeLine∧∀ D,H D=none→Q (.ref D) (upd H D (.lst ys))) ∨
   ((Fz lo n).go i H∧∀ x H',(Fz lo n).IH i H x H'→gName 0 x σ' H' fun σ2 H2=>ti σ2 H2 fun b H3=>if b=true then te σ2 H3 fun y H4=>ys.length<sizeLine∧∃ m',m'<m∧W (i+1) m' (ys++[y]) σ2 H4 else ∃ m',m'<m∧W (i+1) m' ys σ2 H3):=by
 refine⟨fun i m ys σ' H=>m=n-i∧i≤n∧(∃ o,σ'=o::ix.map fun j=>(σ[j]?).join)∧Pv i ys H,⟨n,by simp,Nat.zero_le _,⟨none,rfl⟩,h0⟩,?_⟩
 rintro i m ys σ' H ⟨rfl,hi,⟨o,rfl⟩,p⟩
 by_cases qt:i<n
 ·refine .inr ⟨qt,fun x H' y=>?_⟩
  obtain⟨e,y⟩:=y
  subst e y
  exact hs i ys _ (fun mU H4=>∃ m',m'<n-i∧m'=n-(i+1)∧i+1≤n∧(∃ o',some (V.int (lo+i))::(ix.map fun j=>(σ[j]?).join)=o'::ix.map fun j=>(σ[j]?).join)∧Pv (i+1) mU H4) qt p
   fun mU H4 q=>⟨n-(i+1),by omega,rfl,qt,⟨_,rfl⟩,q⟩
 ·have e:i=n:=by omega
  subst e
  exact .inl ⟨Nat.le_refl _,hd ys H p⟩
theorem fi {K:PySem.W.Frag}{a:Addr}{xs:List V}{x0:Str}{ix:List Nat}{wi:TI}{ti:TT}{te:TE}{Q:VK}{σ:St}{H H1:Hp} (hi:∀ R:It→Hp→Prop,R (G7 K a) H1→wi σ H R) (Pv:Nat→List V→Hp→Prop) (h0:Pv 0 [] H1) (hl:∀ i ys H,i≤xs.length→Pv i ys H→bA K H a xs)
  (hs:∀ i x ys H (R:List V→Hp→Prop),xs[i]? = some x→Pv i ys H→(∀ mU H',Pv (i+1) mU H'→R mU H')→ti (some x::ix.map fun j=>(σ[j]?).join) H fun b H3=>if b=true then te (some x::ix.map fun j=>(σ[j]?).join) H3 fun y H4=>ys.length<sizeLine∧R (ys++[y]) H4 else R ys H3)
  (hd:∀ ys H,Pv xs.length ys H→ys.length≤sizeLine∧∀ D,H D=none→Q (.ref D) (upd H D (.lst ys))):sT [x0] ix wi (gName 0) ti te σ H Q:=hi _ (L6 Pv h0 hl hs hd)
theorem L7 {z:Str}{x0:Str}{ix:List Nat}{wi:TI}{ti:TT}{te:TE}{Q:VK}{σ:St}{H H1:Hp} (hi:∀ R:It→Hp→Prop,R (RQ z) H1→wi σ H R) (Pv:Nat→List V→Hp→Prop) (h0:Pv 0 [] H1)
  (hs:∀ i c ys H (R:List V→Hp→Prop),z.cps[i]? = some c→Pv i ys H→(∀ mU H',Pv (i+1) mU H'→R mU H')→ti (some (.str ⟨#[c]⟩)::ix.map fun j=>(σ[j]?).join) H fun b H3=>if b=true then te (some (.str ⟨#[c]⟩)::ix.map fun j=>(σ[j]?).join) H3 fun y H4=>ys.length<sizeLine∧R (ys++[y]) H4 else R ys H3)
  (hd:∀ ys H,Pv z.cps.size ys H→ys.length≤sizeLine∧∀ D,H D=none→Q (.ref D) (upd H D (.lst ys))):sT [x0] ix wi (gName 0) ti te σ H Q:=hi _ (Nm Pv h0 hs hd)
theorem Hl {lo:Int}{n:Nat}{x0:Str}{ix:List Nat}{wi:TI}{ti:TT}{te:TE}{Q:VK}{σ:St}{H H1:Hp} (hi:∀ R:It→Hp→Prop,R (Fz lo n) H1→wi σ H R) (Pv:Nat→List V→Hp→Prop) (h0:Pv 0 [] H1)
  (hs:∀ i ys H (R:List V→Hp→Prop),i<n→Pv i ys H→(∀ mU H',Pv (i+1) mU H'→R mU H')→ti (some (.int (lo+i))::ix.map fun j=>(σ[j]?).join) H fun b H3=>if b=true then te (some (.int (lo+i))::ix.map fun j=>(σ[j]?).join) H3 fun y H4=>ys.length<sizeLine∧R (ys++[y]) H4 else R ys H3)
  (hd:∀ ys H,Pv n ys H→ys.length≤sizeLine∧∀ D,H D=none→Q (.ref D) (upd H D (.lst ys))):sT [x0] ix wi (gName 0) ti te σ H Q:=hi _ (Jj Pv h0 hs hd)
end L2
namespace L2
open PySem PySem.Spec PyProof.Rows
section
variable {X:Cx}
theorem rg:gH X (.builtin "isinstance") (fun xs H Q=>∃ x n t b,xs=[x,.ty n]∧wM X.K H x t∧PySem.W.kitOne X.K t (.type n)=some b∧Q (.bl b) H):=by
 intro pins s σ H xs us Q I r h
 obtain⟨x,n,t,b,rfl,ty,e,q⟩:=h
 obtain⟨u,w',rfl,rx,rc⟩:=vals2 r
 cases (show w'=Value.type n from rc)
 exact LU I rx ty e fun tk=>⟨.bl b,H,I.tok tk,rfl,q⟩
theorem Fg {x:Str}{n:String}{pos:Pos} (hg:Gl X x) (hm:X.mg x=none) (hv:bootBuiltins x=some (.type n)) (hn:x ≠ "__name__" := by decide) (hd:(x==("__debug__" : Str))=false:=by decide):PE X (.Name x pos) (tC (.ty n)) :=
 OJ (v:=.ty n) hg hm hv rfl hn hd
theorem BX {prog:Program}{w:World}{A:Around}{bs:List Bool}{bF:List Value} (r:Vals (bs.map V.bl) bF):TruthOf prog w A (fun i v=>bF.toArray[i]? = some v) (fun i=>bs.getD i false):=by
 intro i v s Q E hv q
 have OM:bF[i]? = some v:=by simpa using hv
 have hl:=r.length
 rw[List.length_map] at hl
 have hi:i<bF.length:=(List.getElem?_eq_some_iff.mp OM).1
 have hb:(bs.map V.bl)[i]? = some (.bl (bs.getD i false)):=by
  rw[List.getElem?_map,List.getD_eq_getElem?_getD,List.getElem?_eq_getElem (show i<bs.length by omega)]
  rfl
 obtain⟨u,hu,ru⟩:=Vals.get r hb
 rw[OM] at hu
 cases hu
 cases (show v=Value.bool _ from ru)
 exact wpAny_truthy_bool q
theorem range_all (bs:List Bool):(List.range bs.length).all (fun i=>bs.getD i false)=bs.all id:=by
 rw[Bool.eq_iff_iff,List.all_eq_true,List.all_eq_true]
 constructor
 ·intro h b hb
  obtain⟨i,hi,e⟩:=List.mem_iff_getElem.mp hb
  have:=h i (List.mem_range.mpr hi)
  rw[List.getD_eq_getElem?_getD,List.getElem?_eq_getElem hi,e] at this
  exact this
 ·intro h i hi
  have QT:=List.mem_range.mp hi
  rw[List.getD_eq_getElem?_getD,List.getElem?_eq_getElem QT]
  exact h _ (List.getElem_mem QT)
theorem range_any (bs:List Bool):(List.range bs.length).any (fun i=>bs.getD i false)=bs.any id:=by
 rw[Bool.eq_iff_iff,List.any_eq_true,List.any_eq_true]
 constructor
 ·rintro⟨i,hi,e⟩
  have QT:=List.mem_range.mp hi
  rw[List.getD_eq_getElem?_getD,List.getElem?_eq_getElem QT] at e
  exact⟨_,List.getElem_mem QT,e⟩
 ·rintro⟨b,hb,e⟩
  obtain⟨i,hi,e'⟩:=List.mem_iff_getElem.mp hb
  refine⟨i,List.mem_range.mpr hi,?_⟩
  rw[List.getD_eq_getElem?_getD,List.getElem?_eq_getElem hi,e']
  exact e
theorem Hm (hc:X.calm=true):gH X (.builtin "all") (fun xs H Q=>∃ (p:Addr) (bs:List Bool),xs=[.ref p]∧bA X.K H p (bs.map V.bl)∧Q (.bl (bs.all id)) H):=by
 intro pins s σ H xs us Q I r h
 obtain⟨p,bs,rfl,hq,q⟩:=h
 obtain⟨u,rfl,rx⟩:=vals1 r
 cases (show u=Value.ref p from rx)
 obtain⟨bF,rv,pl,hz⟩:=I.list hq
 have qt:p<s.heap.objs.size:=by obtain⟨_,e,_⟩:=pl.isList;exact Heap.lt_size e
 have hl:=rv.length
 rw[List.length_map] at hl
 refine call_all_walk (wpAny_pyIter_list pl.isList ⟨s.heap.objs.size,_,_,_,_,_,_,rfl,Walks.list (A:=X.A.in1) (show X.A.in1.handled=none from I.ok.hd hc) s.heap.objs.size p (Nat.ne_of_lt qt) bF.toArray,⟨⟨_,Heap.get?_push_size _ rfl,rfl,rfl⟩,pl.isList.push _⟩,BX rv,fun h' tk hk=>?_⟩)
 rw[List.size_toArray,←hl,range_all]
 exact⟨.bl _,H,I.kept fun b o e=>hk b o (by simpa using Nat.ne_of_lt (Heap.lt_size e)) (Heap.get?_push_of_some _ e),rfl,q⟩
theorem Hn (hc:X.calm=true):gH X (.builtin "any") (fun xs H Q=>∃ (p:Addr) (bs:List Bool),xs=[.ref p]∧bA X.K H p (bs.map V.bl)∧Q (.bl (bs.any id)) H):=by
 intro pins s σ H xs us Q I r h
 obtain⟨p,bs,rfl,hq,q⟩:=h
 obtain⟨u,rfl,rx⟩:=vals1 r
 cases (show u=Value.ref p from rx)
 obtain⟨bF,rv,pl,hz⟩:=I.list hq
 have qt:p<s.heap.objs.size:=by obtain⟨_,e,_⟩:=pl.isList;exact Heap.lt_size e
 have hl:=rv.length
 rw[List.length_map] at hl
 refine call_any_walk (wpAny_pyIter_list pl.isList ⟨s.heap.objs.size,_,_,_,_,_,_,rfl,Walks.list (A:=X.A.in1) (show X.A.in1.handled=none from I.ok.hd hc) s.heap.objs.size p (Nat.ne_of_lt qt) bF.toArray,⟨⟨_,Heap.get?_push_size _ rfl,rfl,rfl⟩,pl.isList.push _⟩,BX rv,fun h' tk hk=>?_⟩)
 rw[List.size_toArray,←hl,range_any]
 exact⟨.bl _,H,I.kept fun b o e=>hk b o (by simpa using Nat.ne_of_lt (Heap.lt_size e)) (Heap.get?_push_of_some _ e),rfl,q⟩
def rSlS:V→Option Int→Option Int→Hp→VK→Prop:=fun x lo hi H Q=>∃ z,x=.str z∧z.length≤sizeLine∧Q (.str (Txt.slice z lo hi)) H
end
structure Def (K:PySem.W.Frag) (mg:Str→Option Value) (x:Str) (st:Stmt) (ps:List Str) (f:Addr) (fd:FuncData):Prop where
 F:qL K x x st f fd
 mg:mg x=some (.ref f)
 b:Binds K fd ps []
theorem FO {α:Type}{xs:List α}{i:Int} (h0:0≤i) (h1:i<xs.length):∃ v,v∈xs∧xs[i.toNat]? = some v∧qr xs i=some v:=by
 obtain⟨n,rfl⟩:=Int.eq_ofNat_of_zero_le h0
 have hn:n<xs.length:=by omega
 exact⟨xs[n],List.getElem_mem hn,by simp [hn],bT (List.getElem?_eq_getElem hn)⟩
theorem yy {α:Type}{xs:List α}{i m:Int} (h0:0<m) (h1:m≤xs.length):∃ v,v∈xs∧xs[(i % m).toNat]? = some v∧qr xs (i % m)=some v :=
 FO (Int.emod_nonneg _ (by omega)) (by have:=Int.emod_lt_of_pos i h0;omega)
end L2
namespace L2
open PySem PySem.Spec PyProof.Rows
mutual
inductive uZ (K:PySem.W.Frag) (H:Hp):V→PyData→Prop
 | cU:uZ K H .cU .none
 | bl (b:Bool):uZ K H (.bl b) (.bool b)
 | int (i:Int):uZ K H (.int i) (.int i)
 | str (x:Str):uZ K H (.str x) (.str x)
 | lst {a:Addr}{xs:List V}{ds:List PyData}:bA K H a xs→nL K H xs ds→uZ K H (.ref a) (.list ds)
 | tup {a:Addr}{xs:List V}{ds:List PyData}:df K H a xs→nL K H xs ds→uZ K H (.ref a) (.tuple ds)
inductive nL (K:PySem.W.Frag) (H:Hp):List V→List PyData→Prop
 | nil:nL K H [] []
 | cons {x:V}{d:PyData}{xs:List V}{ds:List PyData}:uZ K H x d→nL K H xs ds→nL K H (x::xs) (d::ds)
end
theorem uZ.reads {X:Cx}{pins:List (Addr×Obj)}{σ:St}{H:Hp}{s:Shared} (I:Inv X pins σ H s) {v:V}{d:PyData} (h:uZ X.K H v d):∀ u,RelV v u→∃ as,Reads s.heap u d as :=
 uZ.rec (motive_1:=fun v d _=>∀ u,RelV v u→∃ as,Reads s.heap u d as) (motive_2:=fun xs ds _=>∀ us,Vals xs us→∃ as,ReadsAll s.heap us ds as)
  (fun u r=>by cases (show u=Value.none from r);exact⟨_,.none⟩)
  (fun b u r=>by cases (show u=Value.bool b from r);exact⟨_,.bool b⟩)
  (fun i u r=>by obtain⟨t,rfl⟩:=(show ∃ t,u=Value.int i t from r);exact⟨_,.int i t⟩)
  (fun x u r=>by obtain⟨t,rfl⟩:=(show ∃ t,u=Value.str x t from r);exact⟨_,.str x t⟩)
  (fun {a xs ds} hq _ ih u r=>by
   cases (show u=Value.ref a from r)
   obtain⟨bF,rv,pl,_⟩:=I.list hq
   obtain⟨o,ho,hc,n,hd⟩:=pl.isList
   obtain⟨as,ra⟩:=ih bF rv
   exact⟨_,.list ho hc hd (by simpa using ra)⟩)
  (fun {a xs ds} hq _ ih u r=>by
   cases (show u=Value.ref a from r)
   obtain⟨bF,rv,pl,_⟩:=I.tuple hq
   obtain⟨o,ho,hc,n,hd⟩:=pl
   obtain⟨as,ra⟩:=ih bF rv
   exact⟨_,.tuple ho hc hd (by simpa using ra)⟩)
  (fun us r=>by cases r;exact⟨_,.nil⟩)
  (fun {x d xs ds} _ _ S5 UH us r=>by
   cases r with
   | cons r1 r2 =>
    obtain⟨as,ra⟩:=S5 _ r1
    obtain⟨bs,rb⟩:=UH _ r2
    exact⟨_,.cons ra rb⟩) h
theorem bA.same {K:PySem.W.Frag}{H H':Hp}{a:Addr}{xs:List V} (e:aq H H') (h:bA K H a xs):bA K H' a xs:=e.seq h
theorem df.same {K:PySem.W.Frag}{H H':Hp}{a:Addr}{xs:List V} (e:aq H H') (h:df K H a xs):df K H' a xs:=by
 rcases h with (h | ⟨o,h⟩) | h
 ·exact .inl (.inl (e _ _ h))
 ·exact .inl (.inr ⟨o,e _ _ h⟩)
 ·exact .inr h
theorem uZ.same {K:PySem.W.Frag}{H H':Hp} (e:aq H H') {v:V}{d:PyData} (h:uZ K H v d):uZ K H' v d :=
 uZ.rec (motive_1:=fun v d _=>uZ K H' v d) (motive_2:=fun xs ds _=>nL K H' xs ds) .cU .bl .int .str (fun q _ ih=>.lst (q.same e) ih) (fun q _ ih=>.tup (q.same e) ih) .nil (fun _ _ a b=>.cons a b) h
theorem nL.same {K:PySem.W.Frag}{H H':Hp} (e:aq H H') {v:List V}{d:List PyData} (h:nL K H v d):nL K H' v d :=
 nL.rec (motive_1:=fun v d _=>uZ K H' v d) (motive_2:=fun xs ds _=>nL K H' xs ds) .cU .bl .int .str (fun q _ ih=>.lst (q.same e) ih) (fun q _ ih=>.tup (q.same e) ih) .nil (fun _ _ a b=>.cons a b) h
section
variable {X:Cx}
def S6 (K:PySem.W.Frag) (neg:Bool):R2:=fun x y H Q=>∃ d e,uZ K H x d∧uZ K H y e∧SeqAt.shaped d=true∧SeqAt.shaped e=true∧Q (.bl (if neg then !PyData.eqv d e else PyData.eqv d e)) H
theorem Nn (hu:X.A.units+64<cLine):y2 X (compareOp .Eq) (S6 X.K false):=by
 intro pins s σ H x y v u Q I rx ry h
 obtain⟨d,e,hd,he,s1,s2,q⟩:=h
 obtain⟨as,ra⟩:=hd.reads I v rx
 obtain⟨bs,rb⟩:=he.reads I u ry
 exact eq_dataH ra rb s1 s2 hu ⟨.bl _,H,I,rfl,q⟩
theorem Jk (hu:X.A.units+64<cLine):y2 X (compareOp .NotEq) (S6 X.K true):=by
 intro pins s σ H x y v u Q I rx ry h
 obtain⟨d,e,hd,he,s1,s2,q⟩:=h
 obtain⟨as,ra⟩:=hd.reads I v rx
 obtain⟨bs,rb⟩:=he.reads I u ry
 exact ne_dataH ra rb s1 s2 hu ⟨.bl _,H,I,rfl,q⟩
end
end L2
namespace L2
open PySem PySem.Spec PyProof.Rows
section
variable {P:Program}{w:World}{H H':Hp}{h h':Heap}{a:Addr}{o:HO}
theorem gj.there (x:gj P w H h a o):∃ ob,h.get? a=some ob:=by
 cases o with
 | lst xs=>obtain⟨_,_,_,_,e⟩:=x;exact⟨_,e⟩
 | tup xs=>obtain⟨_,_,_,_,e,_⟩:=x;exact⟨_,e⟩
 | dK cR=>obtain⟨_,_,_,_,o,_,_,e,_⟩:=x;exact⟨_,e⟩
 | dT cR=>obtain⟨_,_,_,_,o,_,_,e,_⟩:=x;exact⟨_,e⟩
 | set S n=>obtain⟨o,_,_,_,e,_⟩:=x;exact⟨_,e⟩
 | ins C dx fs=>obtain⟨_,_,_,e,_⟩:=x;exact⟨_,e⟩
 | own y=>obtain⟨_,e⟩:=x;exact⟨_,e⟩
 | xd fs=>obtain⟨_,⟨_,_,_,e,_⟩,_⟩:=x;exact⟨_,e⟩
 | OF lo hi=>obtain⟨_,_,_,e⟩:=x;exact⟨_,e⟩
 | yE ob u=>obtain⟨e,_⟩:=x;exact⟨_,e⟩
 | Pj ps=>exact⟨_,(show h.get? a=some _ from x)⟩
 | met f y=>exact⟨_,(show h.get? a=some _ from x)⟩
 | ext φ=>obtain⟨_,⟨_,e⟩,_⟩:=x;exact⟨_,e⟩
end
structure IK (P:Program) (w:World) (outer:List Env) (H H':Hp) (s:Shared) (ea:Addr) (cls:Value) (s':Shared):Prop where
 os:s'.os=s.os
 bare:AllBare s'.gens
 un:Un (uD outer) [] H H' s.heap s'.heap
 S8:∃ B a0,Heap.FlyingW B outer ea cls a0 s'.heap∧wg P w H' B∧(∀ b o,s.heap.get? b=some o→H b=none→b∉uD outer→B.get? b=some o)∧(∀ b o,s.heap.get? b=some o→b∉uD outer→∃ o',B.get? b=some o')
def oP (P:Program) (w:World):II:=fun outer H s E e s'=>∃ ea cls H',e=.ref ea∧IK P w outer H H' s ea cls s'∧E cls none H'
section
variable {P:Program}{w:World}{outer:List Env}{H H':Hp}{s s':Shared}{ea:Addr}{cls:Value}
theorem IK.turn {B:Heap}{a0:Value}{GY:Heap} (f:IK P w outer H H' s ea cls s') (Df:Heap.FlyingW B outer ea cls a0 s'.heap) (d4:wg P w H' B) (h3:∀ b o,s.heap.get? b=some o→H b=none→b∉uD outer→B.get? b=some o)
  (h4:∀ b o,s.heap.get? b=some o→b∉uD outer→∃ o',B.get? b=some o') (A4:Heap.FlyingW B outer ea cls a0 GY) (sm:s'.heap.UpToSlots GY):IK P w outer H H' s ea cls { s' with heap:=GY }:=by
 have fr:∀ b o',b∈uD outer→s'.heap.get? b=some o'→∃ sl,GY.get? b=some { o' with slots:=sl }:=fun b o' hb e=>by
  obtain⟨_,o1,e1,d1⟩:=Df.2.2.1.mem hb
  rw[e] at e1;cases e1
  exact sm b o' e d1
 refine⟨f.os,f.bare,⟨fun b o e n hb _=>A4.1 _ _ (h3 b o e n hb),fun b o e n hb hx=>?_,f.un.free,fun b o e hx=>?_,f.un.iz,f.un.sO,f.un.uU⟩,B,a0,A4,d4,h3,h4⟩
 ·obtain⟨sl,e1⟩:=f.un.slot b o e n hb hx
  obtain⟨OG,e2⟩:=fr b _ hb e1
  exact⟨OG,e2⟩
 ·by_cases hb:b∈uD outer
  ·obtain⟨o',e1⟩:=f.un.there b o e hx
   obtain⟨OG,e2⟩:=fr b _ hb e1
   exact⟨_,e2⟩
  ·obtain⟨o',e1⟩:=h4 b o e hb
   exact⟨o',A4.1 _ _ e1⟩
theorem IK.free (f:IK P w outer H H' s ea cls s'):H' ea=none:=by
 obtain⟨B,a0,Df,d4,_⟩:=f.S8
 cases q:H' ea with
 | none=>rfl
 | some o =>
  obtain⟨ob,e⟩:=(d4 ea o q).there
  rw[Df.2.1] at e;cases e
theorem IK.d4 (f:IK P w outer H H' s ea cls s'):wg P w H' s'.heap:=by
 obtain⟨B,a0,Df,d4,_⟩:=f.S8
 exact d4.kept fun b u e=>Df.1 b u e
theorem IK.new (f:IK P w outer H H' s ea cls s'):s.heap.get? ea=none:=by
 obtain⟨B,a0,Df,d4,h3,h4⟩:=f.S8
 cases q:s.heap.get? ea with
 | none=>rfl
 | some o =>
  by_cases hb:ea∈uD outer
  ·obtain⟨_,o1,e1,d1⟩:=Df.2.2.1.mem hb
   obtain⟨_,_,_,oe,vs,T,oT,ts,he,_,hd,_⟩:=Df
   rw[e1] at he;cases he
   exact absurd hd (d1 vs)
  ·obtain⟨o',e⟩:=h4 ea o q hb
   rw[Df.2.1] at e;cases e
theorem IK.at (f:IK P w outer H H' s ea cls s'):∃ oe vs,s'.heap.get? ea=some oe∧oe.cls=cls∧oe.data=.fields vs:=by
 obtain⟨B,a0,Df,_⟩:=f.S8
 obtain⟨oe,vs,he,hc,hd,_⟩:=Df.first
 exact⟨oe,vs,he,hc,hd⟩
end
structure Own (X:Cx):Prop where
 stack:X.stack=X.env::X.outer
 frame:X.env.frame=some X.env.locals
 ex:X.ex=[]
section
variable {X:Cx}{pins:List (Addr×Obj)}{σ:St}{H H':Hp}{s s':Shared}{ea:Addr}{cls:Value}
theorem Own.uD (O:Own X):uD X.stack=X.env.locals::X.fs:=by
 rw[O.stack]
 show (X.env::X.outer).filterMap _=_
 rw[List.filterMap_cons,O.frame]
 rfl
theorem Inv.old (I:Inv X pins σ H s) {b:Addr}{o:Obj} (e:X.s₀.heap.get? b=some o):b≠X.env.locals:=Nat.ne_of_lt (Nat.lt_of_lt_of_le (Heap.lt_size e) I.ok.above)
theorem Inv.FP (O:Own X) (I:Inv X pins σ H s) {b:Addr}{o:Obj} (e:X.s₀.heap.get? b=some o) (hb:b∉X.fs):b∉L2.uD X.stack:=by
 rw[O.uD]
 intro z
 rcases List.mem_cons.mp z with q | q
 ·exact I.old e q
 ·exact hb q
theorem IK.on (O:Own X) (I:Inv X pins σ H s) (f:IK X.prog X.w X.stack H H' s ea cls s') {GY:Heap} (B:Heap) (a0:Value) (Df:Heap.FlyingW B X.stack ea cls a0 s'.heap) (d4:wg X.prog X.w H' B)
  (h3:∀ b o,s.heap.get? b=some o→H b=none→b∉uD X.stack→B.get? b=some o) (h4:∀ b o,s.heap.get? b=some o→b∉uD X.stack→∃ o',B.get? b=some o') (A4:Heap.FlyingW B X.outer ea cls a0 GY) (sm:s'.heap.UpToSlots GY) :
  IK X.prog X.w X.outer X.H₀ H' X.s₀ ea cls { s' with heap:=GY }:=by
 have Lg:∀ b:Addr,b∉X.ex:=fun b z=>by rw[O.ex] at z;exact nomatch z
 have Xs:∀ b,b∈X.fs→b∈uD X.stack:=fun b hb=>by rw[O.uD];exact List.mem_cons_of_mem _ hb
 have fr:∀ b o',b∈X.fs→s'.heap.get? b=some o'→∃ sl,GY.get? b=some { o' with slots:=sl }:=fun b o' hb e=>by
  obtain⟨_,o1,e1,d1⟩:=Df.2.2.1.mem (Xs b hb)
  rw[e] at e1;cases e1
  exact sm b o' e d1
 have k3:∀ b o,X.s₀.heap.get? b=some o→X.H₀ b=none→b∉X.fs→B.get? b=some o:=fun b o e n hb=>h3 b o (I.base.keep b o e n hb (Lg b)) (I.base.free b o e n (Lg b)) (I.FP O e hb)
 have k4:∀ b o,X.s₀.heap.get? b=some o→b∉X.fs→∃ o',B.get? b=some o':=fun b o e hb=>by
  obtain⟨o1,e1⟩:=I.base.there b o e (Lg b)
  exact h4 b o1 e1 (I.FP O e hb)
 refine⟨f.os.trans I.os,f.bare,⟨fun b o e n hb _=>A4.1 _ _ (k3 b o e n hb),fun b o e n hb _=>?_,fun b o e n _=>?_,fun b o e _=>?_,fun b xs q=>f.un.iz b xs (I.base.iz b xs q),fun b o u q=>f.un.sO b o u (I.base.sO b o u q),fun b ps q=>?_⟩,B,a0,A4,d4,k3,k4⟩
 ·obtain⟨sl,e1⟩:=I.base.slot b o e n hb (Lg b)
  obtain⟨sl1,e2⟩:=f.un.slot b _ e1 (I.base.free b o e n (Lg b)) (Xs b hb) (by simp)
  obtain⟨UC,e3⟩:=fr b _ hb e2
  exact⟨UC,e3⟩
 ·obtain⟨o1,e1⟩:=I.base.there b o e (Lg b)
  exact f.un.free b o1 e1 (I.base.free b o e n (Lg b)) (by simp)
 ·by_cases hb:b∈X.fs
  ·obtain⟨o1,e1⟩:=I.base.there b o e (Lg b)
   obtain⟨o2,e2⟩:=f.un.there b o1 e1 (by simp)
   obtain⟨sl,e3⟩:=fr b _ hb e2
   exact⟨_,e3⟩
  ·obtain⟨o',e1⟩:=k4 b o e hb
   exact⟨o',A4.1 _ _ e1⟩
 ·obtain⟨m1,e1⟩:=I.base.uU b ps q
  obtain⟨m2,e2⟩:=f.un.uU b _ e1
  exact⟨m1++m2,by rw[e2,Array.append_assoc]⟩
theorem Inv.YL (I:Inv X pins σ H s):wg X.prog X.w H (PySem.W.hideAll s.heap (uD X.stack)):=fun a o e=>by
 have out:∀ b u,H b=some u→b∉uD X.stack:=fun b u q z=>by rw[I.CM b z] at q;cases q
 refine (I.d4 a o e).rj (fun b u hb q=>PySem.W.hideAll_get _ q ?_) (fun _ q=>q) fun _ _ q=>q
 rcases hb with rfl | hb
 ·exact out _ _ e
 ·exact out _ _ hb
theorem Inv.thrown (O:Own X) (I:Inv X pins σ H s) {vs:List Value}{h1 GY:Heap}{a0:Value} (mk:Heap.MadeExcOf s.heap h1 ea cls vs) (A4:Heap.FlyingW (PySem.W.hideAll s.heap (uD X.stack)) X.outer ea cls a0 GY) (sm:h1.UpToSlots GY) :
  IK X.prog X.w X.outer X.H₀ H X.s₀ ea cls { s with heap:=GY }:=by
 have Lg:∀ b:Addr,b∉X.ex:=fun b z=>by rw[O.ex] at z;exact nomatch z
 have fr:∀ b o1 sl,b∈X.fs→X.s₀.heap.get? b=some o1→s.heap.get? b=some { o1 with slots:=sl }→∃ sl,GY.get? b=some { o1 with slots:=sl }:=fun b o1 sl hb e0 e=>by
  obtain⟨_,o2,e2,d2⟩:=I.ok.uV.mem hb
  rw[e0] at e2;cases e2
  obtain⟨OG,q⟩:=sm b _ (mk.keeps _ _ e) d2
  exact⟨OG,q⟩
 have k3:∀ b o,X.s₀.heap.get? b=some o→X.H₀ b=none→b∉X.fs→(PySem.W.hideAll s.heap (uD X.stack)).get? b=some o:=fun b o e n hb=>PySem.W.hideAll_get _ (I.base.keep b o e n hb (Lg b)) (I.FP O e hb)
 have k4:∀ b o,X.s₀.heap.get? b=some o→b∉X.fs→∃ o',(PySem.W.hideAll s.heap (uD X.stack)).get? b=some o':=fun b o e hb=>by
  obtain⟨o1,e1⟩:=I.base.there b o e (Lg b)
  exact⟨o1,PySem.W.hideAll_get _ e1 (I.FP O e hb)⟩
 refine⟨I.os,I.bare,⟨fun b o e n hb _=>A4.1 _ _ (k3 b o e n hb),fun b o e n hb _=>?_,fun b o e n _=>I.base.free b o e n (Lg b),fun b o e _=>?_,I.base.iz,I.base.sO,I.base.uU⟩,_,a0,A4,I.YL,k3,k4⟩
 ·obtain⟨sl,e1⟩:=I.base.slot b o e n hb (Lg b)
  exact fr b o sl hb e e1
 ·by_cases hb:b∈X.fs
  ·obtain⟨sl,e1⟩:=I.base.slot b o e (I.ok.Oz b hb) hb (Lg b)
   obtain⟨OG,q⟩:=fr b o sl hb e e1
   exact⟨_,q⟩
  ·obtain⟨o',e1⟩:=k4 b o e hb
   exact⟨o',A4.1 _ _ e1⟩
end
def Raises (X:Cx) (E:XK):Prop:=∀ (pins:List (Addr×Obj)) (σ:St) (H:Hp) (s:Shared) (ea:Addr) (cls:Value) (vs:List Value) (h':Heap),Inv X pins σ H s→Heap.MadeExcOf s.heap h' ea cls vs→E cls none H→X.xe (.ref ea) { s with heap:=h' }
section
variable {P:Program}{w:World}{K:PySem.W.Frag}{mg:Str→Option Value}{base:Heap}{N:List Str}{qual:Str}{scope:Scope}{f:Addr}{cd:Value}{A:Around}{outer:List Env}{s:Shared}{H:Hp}{E:XK}
theorem Lh {CX:II}:Own (cxOf CX P w K mg base N qual scope f cd A outer s H E):=⟨rfl,rfl,rfl⟩
theorem sU:Passes (oP P w) (cxOf (oP P w) P w K mg base N qual scope f cd A outer s H E) E:=by
 intro pins σ H1 s1 e s' I hx
 obtain⟨ea,cls,H',rfl,fl,hE⟩:=hx
 obtain⟨B,a0,Df,d4,h3,h4⟩:=id fl.S8
 show wpAny _ _ (leaving _ _) _ _ _
 exact wpAny_leaves_onW (L:=(cxOf (oP P w) P w K mg base N qual scope f cd A outer s H E).env.locals) I.ok.frames rfl Df fun GY A4 sm=>⟨ea,cls,H',rfl,fl.on Lh I B a0 Df d4 h3 h4 A4 sm,hE⟩
theorem qM:Raises (cxOf (oP P w) P w K mg base N qual scope f cd A outer s H E) E:=by
 intro pins σ H1 s1 ea cls vs h' I mk hE
 show wpAny _ _ (leaving _ _) _ _ _
 have UI:∀ env∈(cxOf (oP P w) P w K mg base N qual scope f cd A outer s H E).stack,∀ b,env.frame=some b→b∈uD (cxOf (oP P w) P w K mg base N qual scope f cd A outer s H E).stack:=fun env he b hb=>List.mem_filterMap.mpr ⟨env,he,hb⟩
 exact wpAny_leaves_madeW (s:={ s1 with heap:=h' }) (L:=(cxOf (oP P w) P w K mg base N qual scope f cd A outer s H E).env.locals) (base:=PySem.W.hideAll s1.heap (uD (cxOf (oP P w) P w K mg base N qual scope f cd A outer s H E).stack)) I.ok.frames rfl
  (fun b o q=>PySem.W.of_hideAll _ q) (PySem.W.funFrames_hide I.stack UI) mk fun GY t x1 x2 x3 x4=>⟨ea,cls,H1,rfl,I.thrown Lh mk x1 x4,hE⟩
end
theorem cV {P:Program}{w:World}{X:Cx}:Passes (oP P w) X E0:=fun _ _ _ _ _ _ _ ⟨_,_,_,_,_,h⟩=>h.elim
structure Jl (K:PySem.W.Frag) (mg:Str→Option Value) (x:Str) (C:Addr):Prop where
 mg:mg x=some (.ref C)
 ns:PySem.W.nsIn K mainGlobals x=some (some (.ref C))
 exc:PySem.W.excIn K C [.type "ValueError",.type "Exception",.type "BaseException",.type "object"] "ValueError.__new__" = true
theorem OW {K:PySem.W.Frag}{h:Heap}{C:Addr}{Xt:List Value}{newId:String} (X:K.In h) (q:PySem.W.excIn K C Xt newId=true) :
  ∃ bm N nm qn bs hdct sn sub ab col dd k0 k1 k2 k3 k5 mN,h.get? C=some (excClassObj nm qn C N bs bm hdct sn sub ab col dd k0 k1 k2 k3 k5 newId)∧h.Ns N mN∧mN "__init__" = none∧OwnTail h Xt bm:=by
 unfold PySem.W.excIn at q
 split at q
 ·rename_i dd cd sl ho
  split at q
  ·rename_i C' bm k0 k1 k2 k3 n k5 hm hs
   simp only[Bool.and_eq_true,beq_iff_eq,Bool.not_eq_true'] at q
   obtain⟨⟨⟨⟨⟨rfl,rfl⟩,S9⟩,ht⟩,d4⟩,MI⟩:=q
   obtain⟨nm,bs,mro,ns,qn,hd,sn,sub,ab,col,del⟩:=cd
   dsimp only at hm S9 d4 MI
   subst hm S9
   have YM:sl=#[k0,k1,k2,k3,some (.builtin n),k5]:=by
    obtain⟨l⟩:=sl
    simp only at hs
    rw[hs]
   subst YM
   exact⟨bm,ns,nm,qn,bs,hd,sn,sub,ab,col,dd,k0,k1,k2,k3,k5,_,X _ _ ho,.of_isNs (PySem.W.isNs_of_in X d4),PySem.W.nsMap_none_of_in X d4 MI,PySem.W.tail_of_in X ht⟩
  ·cases q
 ·cases q
section
variable {X:Cx}{x:Str}{C:Addr}{np lX pos:Pos}{e:Expr}{es:List Expr}{t:TA}{E:XK}
def tRaise (C:Addr) (E:XK) (t:TA):TS:=fun _ σ H=>t σ H fun vs H1=>vs.length≤sizeLine∧E (.ref C) none H1
theorem nM (c:Jl X.K X.mg x C) (hc:X.calm=true) (hr:Raises X E) (hg:Gl X x) (ha:PA X (e::es) t) (hd:(x==("__debug__" : Str))=false:=by decide)
  (he:starEach (e::es) X.env=(false,eval e X.env)::starEach es X.env:=by rfl) (Cs:(backTo lX (starEach es X.env)).any (·.1)=false:=by rfl):PS X (.Raise (some (.Call (.Name x np) (e::es) [] lX)) none pos) (tRaise C E t):=by
 intro pins s σ H D I h
 obtain⟨tl,N,nm,q,bs,hdct,sn,sub,ab,col,dd,k0,k1,k2,k3,k5,mN,hC,hN,MI,T⟩:=OW I.ok.mod.Qh c.exc
 refine wpAny_Raise_call_subT (C:=C) (nm:=nm) (q:=q) (N:=N) (bs:=bs) (bm:=tl) (hdct:=hdct) (sn:=sn) (sub:=sub) (ab:=ab) (col:=col) (dd:=dd) (k0:=k0) (k1:=k1) (k2:=k2) (k3:=k3) (k5:=k5)
  PySem.F.excBase_ValueError (mN:=mN) (T.hasType PySem.F.excBase_ValueError.hasBase) (I.ok.hd hc) (by rw[he];show (false||(backTo lX (starEach es X.env)).any (·.1))=false;rw[Cs];rfl) MI (z7 I hg c.mg ⟨rfl,?_⟩ hd)
 have h2:=ha lX pins s σ H _ I h
 rw[he] at h2 ⊢
 refine Calls.evalArgs_plain (wpAny_mono h2 (fun us s2 ⟨vs,H2,I2,r,hz,hE⟩=>?_) fun _ _ y=>y)
 exact⟨rfl,by rw[←r.length];exact hz,I2.bk _ _ hC,hN.keeps I2.bk,T.keeps I2.bk,fun h' ea mk=>hr pins σ H2 s2 ea (.ref C) us h' I2 mk hE⟩
end
theorem qL.MJ {P:Program}{w:World}{K:PySem.W.Frag}{mg:Str→Option Value}{base:Heap}{x qual:Str}{st:Stmt}{f:Addr}{fd:FuncData}{N ps:List Str}{k:Nat}{sp:Sp} (F:qL K x qual st f fd) (S:aJ N ps (ar st)) (len:∀ vs H Q E,sp vs H Q E→vs.length=ps.length)
  (Hc:∀ (gJ:Value) (A:Around) (outer:List Env) (s:Shared) (H:Hp) (vs:List V) (Q:VK) (E:XK),mT k (A.deeper (envOfC qual (ar st) s.heap.objs.size f gJ))→sp vs H Q E →
   ∃ t,K0 (cxOf (oP P w) P w K mg base N qual (ar st) f gJ A outer s H E) (sS st) t∧t { nx:=fun _ H'=>Q .cU H',rt:=Q } (start N vs) H):av P w K mg base (oP P w) (k+1) f fd ps sp:=by
 obtain⟨oc,od,kV,doc,pm,an,gJ,ct,LW,rfl,lk,LK⟩:=F.ex
 exact Pq lk LK S len fun A outer s H vs Q E hr OA=>Hc gJ A outer s H vs Q E hr OA
end L2
namespace L2
open PySem PySem.Spec PyProof.Rows
theorem Inv.Ld {X:Cx}{pins:List (Addr×Obj)}{σ:St}{H:Hp}{s:Shared}{a:Addr}{o:HO} (I:Inv X pins σ H s) (hn:H a=none) (new:gj X.prog X.w (upd H a o) s.heap a o) (h0:X.s₀.heap.get? a=none) (hL:a≠X.env.locals)
  (hC:∀ x c,X.env.cells.lookup x=some c→c≠a) (hp:∀ p∈X.pn++pins,p.1≠a):Inv X pins σ (upd H a o) s:=by
 have ne:∀ b ob,X.s₀.heap.get? b=some ob→b≠a:=fun b ob e z=>by rw[z,h0] at e;cases e
 have tr:∀ b u,H b=some u→upd H a o b=some u:=fun b u e=>by rw[aF (aG e hn)];exact e
 refine⟨I.ok,I.os,I.bare,⟨I.base.keep,I.base.slot,fun b ob e n hx=>by rw[aF (ne b ob e)];exact I.base.free b ob e n hx,I.base.there,fun b xs q=>tr _ _ (I.base.iz b xs q),fun b ob u q=>tr _ _ (I.base.sO b ob u q),fun b ps q=>?_⟩,
  I.loc,I.cell,by rw[aF (Ne.symm hL)];exact I.free,fun x c e=>by rw[aF (hC x c e)];exact I.uF x c e,fun p q=>?_,I.d4.Ld hn new,I.len⟩
 ·obtain⟨m,e⟩:=I.base.uU b ps q
  exact⟨m,tr _ _ e⟩
 ·obtain⟨q1,q2,q3⟩:=I.pin p q
  exact⟨q1,by rw[aF (hp p q)];exact q2,q3⟩
def XP (X:Cx) (pins:List (Addr×Obj)) (σ:St) (E:XK) (ev:Value) (s':Shared):Prop:=∃ H s0,Inv X pins σ H s0∧oP X.prog X.w X.stack H s0 E ev s'
abbrev TX:=St→Hp→VK→XK→Prop
section
variable {X:Cx}{k:Nat}{f C:Addr}{fd:FuncData}{ps:List Str}{sp:Sp}{BU:List V}{ds:List Value}{x m:Str}{p pos apos:Pos}{e o:Expr}{es:List Expr}{ta:TE}{t:TA}
end
def Cx.suite (X:Cx) (ea:Addr):Cx:={ X with A:=X.A.mark (some (.ref ea)),calm:=false,xe:=fun _ _=>False }
section
variable {X:Cx}{pins:List (Addr×Obj)}{σ:St}{H:Hp}{s:Shared}{ea:Addr}
theorem Inv.suite (I:Inv X pins σ H s) (ea:Addr):Inv (X.suite ea) pins σ H s :=
 ⟨⟨I.ok.mod,I.ok.kind,I.ok.glob,I.ok.blt,I.ok.above,I.ok.inj,I.ok.has,I.ok.RL,fun q=>(nomatch q),I.ok.frames,I.ok.Sm,I.ok.Ve,I.ok.bs,I.ok.KZ,I.ok.IP,I.ok.MP,I.ok.uV,I.ok.Oz⟩,I.os,I.bare,I.base,I.loc,I.cell,I.free,I.uF,I.pin,I.d4,I.len⟩
end
section
variable {X:Cx}{e:Expr}{c n:Str}{b₀:Stmt}{suite:List Stmt}{YN np YO pos:Pos}{te:TX}{ts:TS}{cv:Value}{i:Nat}
end
end L2
namespace L2
open PySem PySem.Spec PyProof.Rows
section
variable {prog:Program}{w:World}{A:Around}{E:Value→Shared→Prop}{K:PySem.W.Frag}{h:Heap}{g:Array GenState}{d:Drawn}{t:Nat}{os:OsState}{a D:Addr}{o:Obj}{vs:Array Value}
structure Pw (K:PySem.W.Frag) (D:Addr):Prop where
 ga:PySem.W.findIn K (.ref D) "__getattribute__" = some (some (.builtin "BaseException.__getattribute__"))
 gt:PySem.W.findIn K (.ref D) "__getattr__" = some none
 cl:PySem.W.findIn K (.ref D) "__class__" = some (some (.builtin "object.__class__"))
 mro:PySem.W.mroIn K D (.type "object")=some true
 sub:PySem.W.subIn K (.ref D) (.type "BaseException")=some true
 cls:(PySem.W.clsIn K D).isSome=true
section
open PySem.W Builtin Builtin.ObjectAttr Builtin.Getset_descriptor
end
end
section
variable {X:Cx}
end
structure rn (k:Nat) (A:Around):Prop where
 dp:A.depth+3*k+5<recursionLimit
 un:A.units+16*k+200<cLine
theorem mT.n {k:Nat}{A:Around} (r:mT k A):rn k A:=⟨r.dp,r.un⟩
theorem rn.mono {j k:Nat}{A:Around} (r:rn k A) (h:j≤k):rn j A:=⟨by have:=r.dp;omega,by have:=r.un;omega⟩
theorem rn.mark {k:Nat}{A:Around} (r:rn k A) (hd:Option Value):rn k (A.mark hd):=⟨r.dp,r.un⟩
theorem rn.deeper {k:Nat}{A:Around} (r:rn (k+1) A) (env:Env):rn k (A.deeper env) :=
 ⟨by have:=r.dp;show A.depth+1+3*k+5<_;omega,by have:=r.un;show A.units+3+16*k+200<_;omega⟩
theorem rn.depth {k:Nat}{A:Around} (r:rn k A):A.depth<recursionLimit:=by have:=r.dp;omega
theorem rn.units {k:Nat}{A:Around} (r:rn k A):A.units+64<cLine:=by have:=r.un;omega
structure Px (P:Program) (w:World) (K:PySem.W.Frag) (mg:Str→Option Value) (base:Heap) (k:Nat) (f:Addr) (fd:FuncData) (ps:List Str) (sp:Sp):Prop where
 len:∀ vs H Q E,sp vs H Q E→vs.length=ps.length
 run:∀ (A:Around) (outer:List Env) (s:Shared) (H:Hp) (args:Args) (us:List Value) (vs:List V) (Q:VK) (E:XK),rn k A→C6 P w K mg base A outer s H→BindsTo s fd args (ps.zip us)→Vals vs us→sp vs H Q E →
  codeAny (model P w) A (.call (.ref f) args) (CR bw outer P w H s Q E) s
theorem Px.calm {P:Program}{w:World}{K:PySem.W.Frag}{mg:Str→Option Value}{base:Heap}{k:Nat}{f:Addr}{fd:FuncData}{ps:List Str}{sp:Sp} (F:Px P w K mg base k f fd ps sp):av P w K mg base bw k f fd ps sp :=
 ⟨F.len,fun A outer s H args us vs Q E hr=>F.run A outer s H args us vs Q E hr.n⟩
def cxOfN (P:Program) (w:World) (K:PySem.W.Frag) (mg:Str→Option Value) (base:Heap) (N:List Str) (qual:Str) (scope:Scope) (f:Addr) (cd:Value) (A:Around) (outer:List Env) (s:Shared) (H:Hp):Cx :=
 { cxOf bw P w K mg base N qual scope f cd A outer s H E0 with calm:=false,xe:=fun _ _=>False }
section
variable {X:Cx}{k:Nat}{f:Addr}{fd:FuncData}{ps:List Str}{sp:Sp}{BU:List V}{ds:List Value}{x:Str}{p pos:Pos}{e:Expr}{es:List Expr}{t:TA}{E:XK}
end
structure Np (K:PySem.W.Frag) (B:Addr) (m:Str) (f:Addr):Prop where
 sp:PySem.W.specialIn K (.ref B) "__getattribute__" = some (some (.builtin "type.__getattribute__"))
 rd:PySem.W.readsIn K B (.type "type")=true
 fd:PySem.W.findCls K (.ref B) (.type "type") m=some (.val (.ref f))
 kp:PySem.W.keepIn K (.ref f)=true
section
variable {X:Cx}{CX:II}{k:Nat}{f B:Addr}{fd:FuncData}{ps:List Str}{sp:Sp}{BU:List V}{ds:List Value}{E:XK}{x m:Str}{p pos apos:Pos}{e:Expr}{es:List Expr}{t:TA}
theorem FQ {pl:Sem Bool} (hg:Gl X x) (QF:X.mg x=some (.ref B)) (c:Np X.K B m f) (F:av X.prog X.w X.K X.mg X.base CX k f fd ps sp) (hr:mT k X.A) (hb:Binds X.K fd ps ds) (hd:Vals BU ds) (hx:Passes CX X E) (ha:PA X (e::es) t)
  (OP:(x==("__debug__" : Str))=false:=by decide) (Sq:starEach (e::es) X.env=(false,eval e X.env)::starEach es X.env:=by rfl) (Cs:(backTo pos (starEach es X.env)).any (·.1)=false:=by rfl)
  (ht:eval (.Call (.Attribute (.Name x p) m apos) (e::es) [] pos) X.env=(do
   let ov ←eval (.Name x p) X.env
   standAt apos.atName
   let (f,first) ←holding [ov] (getMethod ov m pl)
   callWith pos f first (backTo pos (starEach (e::es) X.env)) (backToKw pos (keywordEach [] X.env))):=by rfl) :
  PE X (.Call (.Attribute (.Name x p) m apos) (e::es) [] pos) (tCall sp BU E t):=by
 intro pins s σ H Q I h
 refine PySem.W.methodCall_KW (pl:=pl) (z7 I hg QF ?_ OP) ht
 refine PySem.W.method_cls I.A1 c.sp (PySem.W.cls_value I.A1 c.rd c.fd rfl ?_)
 have I':=I.tok (s.toks+1)
 refine PySem.W.callWith_K (first:=[]) (h₀:=X.base) I.ok.mod.Qh c.kp (gZ (ha pos pins { s with toks:=s.toks+1 } σ H _ I' h) fun us s2 ⟨vs,H2,I2,r,q2⟩=>⟨I2.A1,?_⟩) Sq Cs
 exact FC F hr hb hd hx I2 r q2
end
section
variable {X:Cx}
def rInsert:V→List V→Hp→VK→Prop:=fun x vs H Q=>∃ l xs i y,x=.ref l∧vs=[.int i,y]∧H l=some (.lst xs)∧0≤i∧i≤xs.length∧xs.length<sizeLine∧Q .cU (upd H l (.lst (xs.take i.toNat++y::xs.drop i.toNat)))
end
end L2
namespace L2
open PySem PySem.Spec PyProof.Rows
section
variable {X:Cx}
theorem gH.imp {f:Value}{r r':List V→Hp→VK→Prop} (h:gH X f r) (hi:∀ xs H Q,r' xs H Q→r xs H Q):gH X f r':=fun pins s σ H xs us Q I rs q=>h pins s σ H xs us Q I rs (hi _ _ _ q)
def rLenL (K:PySem.W.Frag):List V→Hp→VK→Prop:=fun xs H Q=>∃ p ys,xs=[.ref p]∧bA K H p ys∧Q (.int ys.length) H
def rLenT (K:PySem.W.Frag):List V→Hp→VK→Prop:=fun xs H Q=>∃ p ys,xs=[.ref p]∧df K H p ys∧Q (.int ys.length) H
def rListL (K:PySem.W.Frag):List V→Hp→VK→Prop:=fun xs H Q=>∃ p ys,xs=[.ref p]∧bA K H p ys∧∀ l,H l=none→Q (.ref l) (upd H l (.lst ys))
def rListT (K:PySem.W.Frag):List V→Hp→VK→Prop:=fun xs H Q=>∃ p ys,xs=[.ref p]∧df K H p ys∧∀ l,H l=none→Q (.ref l) (upd H l (.lst ys))
def rTupL (K:PySem.W.Frag):List V→Hp→VK→Prop:=fun xs H Q=>∃ p ys,xs=[.ref p]∧bA K H p ys∧∀ l,H l=none→Q (.ref l) (upd H l (.tup ys))
def rTupT (K:PySem.W.Frag):List V→Hp→VK→Prop:=fun xs H Q=>∃ p ys,xs=[.ref p]∧df K H p ys∧Q (.ref p) H
def rIsiT (K:PySem.W.Frag):List V→Hp→VK→Prop:=fun xs H Q=>∃ x n t b,xs=[x,.ty n]∧wM K H x t∧PySem.W.kitOne K t (.type n)=some b∧Q (.bl b) H
theorem bE:gH X (.builtin "len") (rLenL X.K):=Af.imp fun _ _ _ ⟨p,ys,e,h,q⟩=>⟨p,ys,e,.inl h,q⟩
theorem uH:gH X (.builtin "len") (rLenT X.K):=Af.imp fun _ _ _ ⟨p,ys,e,h,q⟩=>⟨p,ys,e,.inr h,q⟩
theorem u6:gH X (.type "list") (rListL X.K):=FK.imp fun _ _ _ ⟨p,ys,e,h,q⟩=>⟨p,ys,e,.inl h,q⟩
theorem oS:gH X (.type "tuple") (rTupL X.K):=Ew.imp fun _ _ _ ⟨p,ys,e,h,q⟩=>⟨p,ys,e,.inl ⟨h,q⟩⟩
end
theorem scal_ii {a b:Int}:(MZ (.int a) (.int b)=true)=True:=eq_true rfl
theorem scal_ss {a b:Str}:(MZ (.str a) (.str b)=true)=True:=eq_true rfl
theorem scal_bb {a b:Bool}:(MZ (.bl a) (.bl b)=true)=True:=eq_true rfl
theorem aq.upd {H H':Hp}{l:Addr}{o:HO} (s:aq H H') (h:H' l=none):aq H (upd H' l o):=fun b u e=>by
 have e':=s b u e
 rw[aF (aG e' h)]
 exact e'
theorem aq.put {H:Hp}{l:Addr}{o:HO} (h:H l=none):aq H (L2.upd H l o):=(aq.refl H).upd h
end L2
namespace SH
open PySem L2
abbrev Jm:Str := "abcdefghijklmnopqrstuvwxyz"
def FR (c:Nat):Bool := !(Builtin.Str.occurrences Jm ⟨#[c]⟩ 0 Jm.length 1).isEmpty
def d6 (x:Str):Bool:=decide (1≤x.length)&&decide (x.length≤8)&&x.cps.toList.all FR
def markV:V→Bool
 | .str x=>d6 x
 | _=>false
def QU:V→Bool
 | .int _=>true
 | _=>false
inductive wD (H:Hp):V→Prop where
 | cU:wD H .cU
 | bl (b:Bool):wD H (.bl b)
 | int (i:Int):wD H (.int i)
 | str (x:Str) (h:x.length≤1000):wD H (.str x)
 | lst {a:Addr}{xs:List V} (h:H a=some (.lst xs)):wD H (.ref a)
 | tup {a:Addr}{xs:List V} (h:H a=some (.tup xs)):wD H (.ref a)
theorem wD.same {H H':Hp}{v:V} (s:aq H H') (t:wD H v):wD H' v:=by
 cases t with
 | cU=>exact .cU
 | bl b=>exact .bl b
 | int i=>exact .int i
 | str x h=>exact .str x h
 | lst h=>exact .lst (s _ _ h)
 | tup h=>exact .tup (s _ _ h)
def isStr:V→Bool
 | .str _=>true
 | _=>false
def isInt:V→Bool
 | .int _=>true
 | .bl _=>true
 | _=>false
def VR:V→Bool
 | .bl _=>true
 | _=>false
section
variable {K:PySem.W.Frag}
theorem wD.ty {H:Hp}{v:V} (t:wD H v):∃ y,wM K H v y∧PySem.W.kitOne K y (.type "str")=some (isStr v)∧PySem.W.kitOne K y (.type "int")=some (isInt v)∧PySem.W.kitOne K y (.type "bool")=some (VR v):=by
 cases t with
 | cU=>exact⟨_,.cU,by kernel_rfl,by kernel_rfl,by kernel_rfl⟩
 | bl b=>exact⟨_,.bl b,by kernel_rfl,by kernel_rfl,by kernel_rfl⟩
 | int i=>exact⟨_,.int i,by kernel_rfl,by kernel_rfl,by kernel_rfl⟩
 | str x h=>exact⟨_,.str x,by kernel_rfl,by kernel_rfl,by kernel_rfl⟩
 | lst h=>exact⟨_,.lst h,by kernel_rfl,by kernel_rfl,by kernel_rfl⟩
 | tup h=>exact⟨_,.tup h,by kernel_rfl,by kernel_rfl,by kernel_rfl⟩
theorem wD.isList {H:Hp}{v:V} (t:wD H v):∃ y b,wM K H v y∧PySem.W.kitOne K y (.type "list")=some b∧((b=true∧∃ a xs,v=.ref a∧H a=some (.lst xs))∨(b=false∧∀ a xs,v=.ref a→H a≠some (.lst xs))):=by
 cases t with
 | cU=>exact⟨_,false,.cU,by kernel_rfl,.inr ⟨rfl,fun _ _ z=>nomatch z⟩⟩
 | bl b=>exact⟨_,false,.bl b,by kernel_rfl,.inr ⟨rfl,fun _ _ z=>nomatch z⟩⟩
 | int i=>exact⟨_,false,.int i,by kernel_rfl,.inr ⟨rfl,fun _ _ z=>nomatch z⟩⟩
 | str x h=>exact⟨_,false,.str x,by kernel_rfl,.inr ⟨rfl,fun _ _ z=>nomatch z⟩⟩
 | lst h=>exact⟨_,true,.lst h,by kernel_rfl,.inl ⟨rfl,_,_,rfl,h⟩⟩
 | tup h=>exact⟨_,false,.tup h,by kernel_rfl,.inr ⟨rfl,fun _ _ z e=>by cases z;rw[h] at e;cases e⟩⟩
end
theorem Ey {p:Nat→Bool}{l:List Nat}{i c:Nat} (h:l[i]? = some c):(l.take (i+1)).all p=((l.take i).all p&&p c):=by
 rw[List.take_add_one,h]
 simp
theorem QV {z:Str}{i m:Int} (h0:0<m) (h1:m≤z.length):∃ c,c∈z.cps.toList∧qr z.cps.toList (i % m)=some c:=by
 obtain⟨v,hm,_,e⟩:=yy (xs:=z.cps.toList) (i:=i) h0 (by simpa [Str.length] using h1)
 exact⟨v,hm,e⟩
theorem yz (c:Nat):(⟨#[c]⟩:Str).length=1:=rfl
def bx (σ τ:St):Prop:=σ=τ
theorem bx.rfl {σ:St}:bx σ σ:=Eq.refl σ
theorem bx.eq {σ τ:St} (h:bx σ τ):σ=τ:=h
def Py (n:Nat) (H:Hp) (v:V):Prop:=∃ a xs,v=.ref a∧H a=some (.lst xs)∧xs.length≤n
def wU (n:Nat) (H:Hp) (v:V):Prop:=∃ a xs,v=.ref a∧H a=some (.lst xs)∧xs.length≤n∧xs.all markV=true
def Ah (H:Hp) (v:V):Prop:=wD H v∧∀ a xs,v=.ref a→H a=some (.lst xs)→∀ x∈xs,wD H x
theorem wD.back {H H':Hp}{v:V}{a:Addr}{xs:List V} (t:wD H v) (s:aq H H') (e:v=.ref a) (h:H' a=some (.lst xs)):H a=some (.lst xs):=by
 cases t with
 | cU=>cases e
 | bl b=>cases e
 | int i=>cases e
 | str x h=>cases e
 | lst h1=>cases e;rw[s _ _ h1] at h;cases h;exact h1
 | tup h1=>cases e;rw[s _ _ h1] at h;cases h
theorem Ah.same {H H':Hp}{v:V} (s:aq H H') (t:Ah H v):Ah H' v:=⟨t.1.same s,fun a xs e h x hx=>(t.2 a xs e (t.1.back s e h) x hx).same s⟩
theorem wU.back {n:Nat}{H H':Hp}{v:V} (t:wD H v) (s:aq H H') (g:wU n H' v):wU n H v:=by
 obtain⟨a,xs,e,h,l,m⟩:=g
 exact⟨a,xs,e,t.back s e h,l,m⟩
theorem Ai {H:Hp}{a:Addr}{xs:List V} (h:H a=some (.lst xs)) (hx:∀ x∈xs,wD H x):Ah H (.ref a):=⟨.lst h,fun a' GZ e h' x m=>by cases e;rw[h] at h';cases h';exact hx x m⟩
theorem app_list (a y:Str):(a++y).cps.toList=a.cps.toList++y.cps.toList:=by
 rw[PySem.Str.cps_append,Array.toList_append]
theorem Ho {c:Nat}:FR c=true↔c∈Jm.cps.toList:=by
 unfold FR
 rw[PySem.StrLaws.found_one,decide_eq_true_eq]
theorem OX {c:Nat} (h:FR c=true):c<0x110000:=by
 have h1:∀ d∈Jm.cps.toList,d<0x110000:=by decide +kernel
 exact h1 c (Ho.mp h)
theorem Aj {z:Str} (h:d6 z=true):1≤z.length∧z.length≤8∧∀ c∈z.cps.toList,FR c=true:=by
 unfold d6 at h
 simp only[Bool.and_eq_true,decide_eq_true_eq,List.all_eq_true] at h
 exact⟨h.1.1,h.1.2,h.2⟩
theorem y6 {z:Str} (h:d6 z=true):PyData.strOk z=true:=by
 unfold PyData.strOk
 rw[←Array.all_toList,List.all_eq_true]
 intro c hc
 exact decide_eq_true (OX ((Aj h).2.2 c hc))
theorem OY {z:Str} (h1:1≤z.length) (h2:z.length≤8) (h3:∀ c∈z.cps.toList,FR c=true):d6 z=true:=by
 unfold d6
 simp only[Bool.and_eq_true,decide_eq_true_eq,List.all_eq_true]
 exact⟨⟨h1,h2⟩,h3⟩
end SH
namespace SH
open PySem L2
theorem u7 {α:Type}{a b:Str}{x y:α} (h:(b==a)=false):List.lookup b [(a,x),(b,y)]=some y:=by
 rw[List.lookup_cons,h,List.lookup_cons,beq_self_eq_true]
theorem cX {α:Type}{a b c:Str}{x y:α} (h:(c==a)=false) (h':(c==b)=false):List.lookup c [(a,x),(b,y)]=none:=by
 rw[List.lookup_cons,h,List.lookup_cons,h']
 rfl
theorem Li {a b:Str}{x y:V} (h:¬ a=b):oR b y [(a,x)]=[(a,x),(b,y)]:=by
 show (if a=b then [(a,y)] else (a,x)::oR b y [])=_
 rw[if_neg h]
 rfl
abbrev Nd:=Str×Int
def ka (H:Hp) (x:V) (n:Nd):Prop:=∃ t,x=.ref t∧H t=some (.tup [.str n.1,.int n.2])
def aO (H:Hp):List V→List Nd→Prop
 | [],[]=>True
 | x::xs,n::ns=>ka H x n∧aO H xs ns
 | [],_::_=>False
 | _::_,[]=>False
theorem ka.same {H H':Hp}{x:V}{n:Nd} (s:aq H H') (h:ka H x n):ka H' x n:=by
 obtain⟨t,e,h⟩:=h
 exact⟨t,e,s _ _ h⟩
theorem ka.uniq {H:Hp}{x:V}{n m:Nd} (a:ka H x n) (b:ka H x m):n=m:=by
 obtain⟨t,e,h⟩:=a
 obtain⟨t',e',h'⟩:=b
 rw[e] at e'
 cases e'
 rw[h] at h'
 obtain⟨n1,n2⟩:=n
 obtain⟨m1,m2⟩:=m
 simp at h'
 rw[h'.1,h'.2]
theorem aO.same {H H':Hp} (s:aq H H'):∀ {xs:List V}{ns:List Nd},aO H xs ns→aO H' xs ns
 | [],[],h=>h
 | _::_,_::_,h=>⟨h.1.same s,aO.same s h.2⟩
 | [],_::_,h=>h.elim
 | _::_,[],h=>h.elim
theorem aO.iz {H H':Hp} (s:∀ b ys,H b=some (.tup ys)→H' b=some (.tup ys)):∀ {xs:List V}{ns:List Nd},aO H xs ns→aO H' xs ns
 | [],[],h=>h
 | _::_,_::_,h=>by
  obtain⟨⟨t,e,h1⟩,h2⟩:=h
  exact⟨⟨t,e,s _ _ h1⟩,aO.iz s h2⟩
 | [],_::_,h=>h.elim
 | _::_,[],h=>h.elim
theorem aO.length {H:Hp}:∀ {xs:List V}{ns:List Nd},aO H xs ns→xs.length=ns.length
 | [],[],_=>rfl
 | _::_,_::_,h=>by rw[List.length_cons,List.length_cons,aO.length h.2]
 | [],_::_,h=>h.elim
 | _::_,[],h=>h.elim
theorem aO.uniq {H:Hp}:∀ {xs:List V}{ns ms:List Nd},aO H xs ns→aO H xs ms→ns=ms
 | [],[],[],_,_=>rfl
 | _::_,_::_,_::_,a,b=>by rw[a.1.uniq b.1,aO.uniq a.2 b.2]
 | [],_::_,_,a,_=>a.elim
 | [],_,_::_,_,b=>b.elim
 | _::_,[],_,a,_=>a.elim
 | _::_,_,[],_,b=>b.elim
theorem aO.append {H:Hp}:∀ {xs ys:List V}{ns ms:List Nd},aO H xs ns→aO H ys ms→aO H (xs++ys) (ns++ms)
 | [],_,[],_,_,b=>b
 | _::_,_,_::_,_,a,b=>⟨a.1,aO.append a.2 b⟩
 | [],_,_::_,_,a,_=>a.elim
 | _::_,_,[],_,a,_=>a.elim
theorem aO.split {H:Hp}:∀ {xs ys:List V}{ns:List Nd},aO H (xs++ys) ns→∃ n1 n2,ns=n1++n2∧aO H xs n1∧aO H ys n2
 | [],_,ns,h=>⟨[],ns,rfl,trivial,h⟩
 | x::xs,ys,[],h=>h.elim
 | x::xs,ys,n::ns,h=>by
  obtain⟨n1,n2,e,a,b⟩:=aO.split (xs:=xs) h.2
  exact⟨n::n1,n2,by rw[e];rfl,⟨h.1,a⟩,b⟩
theorem aO.get {H:Hp}:∀ {xs:List V}{ns:List Nd}{i:Nat}{x:V},aO H xs ns→xs[i]? = some x→∃ n,ns[i]? = some n∧ka H x n
 | [],[],_,_,_,e=>by simp at e
 | _::_,n::_,0,_,h,e=>by simp at e;subst e;exact⟨n,rfl,h.1⟩
 | _::_,_::_,i+1,x,h,e=>by
  obtain⟨m,a,b⟩:=aO.get (i:=i) (x:=x) h.2 (by simpa using e)
  exact⟨m,by simpa using a,b⟩
 | [],_::_,_,_,h,_=>h.elim
 | _::_,[],_,_,h,_=>h.elim
theorem aO.take {H:Hp}:∀ {xs:List V}{ns:List Nd} (i:Nat),aO H xs ns→aO H (xs.take i) (ns.take i)
 | [],[],_,_=>by simp [aO]
 | _::_,_::_,0,_=>trivial
 | _::_,_::_,i+1,h=>⟨h.1,aO.take i h.2⟩
 | [],_::_,_,h=>h.elim
 | _::_,[],_,h=>h.elim
theorem aO.drop {H:Hp}:∀ {xs:List V}{ns:List Nd} (i:Nat),aO H xs ns→aO H (xs.drop i) (ns.drop i)
 | [],[],_,_=>by simp [aO]
 | _::_,_::_,0,h=>h
 | _::_,_::_,i+1,h=>aO.drop i h.2
 | [],_::_,_,h=>h.elim
 | _::_,[],_,h=>h.elim
def Lj (n:Nd):Int:=min (n.2+1) 12
def dG:Int→List Nd→Prop
 | _,[]=>True
 | d,n::r=>d6 n.1=true∧0≤n.2∧n.2≤d∧dG (Lj n) r
def gn:Int→List Nd→Int
 | d,[]=>d
 | _,n::r=>gn (Lj n) r
theorem gb:∀ {d:Int}{a b:List Nd},dG d (a++b)↔dG d a∧dG (gn d a) b
 | d,[],b=>by simp [dG,gn]
 | d,n::r,b=>by
  have ih:=gb (d:=Lj n) (a:=r) (b:=b)
  simp only[List.cons_append,dG,gn,ih]
  constructor
  ·rintro⟨h1,h2,h3,h4,h5⟩;exact⟨⟨h1,h2,h3,h4⟩,h5⟩
  ·rintro⟨⟨h1,h2,h3,h4⟩,h5⟩;exact⟨h1,h2,h3,h4,h5⟩
theorem ja:∀ {d:Int}{a b:List Nd},gn d (a++b)=gn (gn d a) b
 | _,[],_=>rfl
 | _,n::r,b=>ja (d:=Lj n) (a:=r) (b:=b)
theorem nq {d:Int}{ns:List Nd}:dG d ns→∀ n∈ns,d6 n.1=true∧0≤n.2:=by
 induction ns generalizing d with
 | nil=>intro _ n h;exact nomatch h
 | cons m r ih =>
  rintro⟨h1,h2,_,h4⟩ n hn
  rcases List.mem_cons.mp hn with e | e
  ·rw[e];exact⟨h1,h2⟩
  ·exact ih h4 n e
def FT (H:Hp) (v:V):Prop:=wD H v∧∀ a xs,v=.ref a→H a=some (.tup xs)→∀ x∈xs,wD H x
def Jn (H:Hp) (v:V):Prop:=wD H v∧∀ a xs,v=.ref a→H a=some (.lst xs)→∀ x∈xs,FT H x
def Dg (H:Hp) (v:V):Prop:=∃ a xs ns,v=.ref a∧H a=some (.lst xs)∧xs.length≤40∧aO H xs ns∧dG 0 ns
theorem wD.Pz {H H':Hp}{v:V}{a:Addr}{xs:List V} (t:wD H v) (s:aq H H') (e:v=.ref a) (h:H' a=some (.tup xs)):H a=some (.tup xs):=by
 cases t with
 | cU=>cases e
 | bl b=>cases e
 | int i=>cases e
 | str x h=>cases e
 | lst h1=>cases e;rw[s _ _ h1] at h;cases h
 | tup h1=>cases e;rw[s _ _ h1] at h;cases h;exact h1
theorem FT.same {H H':Hp}{v:V} (s:aq H H') (t:FT H v):FT H' v:=⟨t.1.same s,fun a xs e h x hx=>(t.2 a xs e (t.1.Pz s e h) x hx).same s⟩
theorem Jn.same {H H':Hp}{v:V} (s:aq H H') (t:Jn H v):Jn H' v:=⟨t.1.same s,fun a xs e h x hx=>(t.2 a xs e (t.1.back s e h) x hx).same s⟩
theorem ka.back {H H':Hp}{v:V}{n:Nd} (t:wD H v) (s:aq H H') (h:ka H' v n):ka H v n:=by
 obtain⟨a,e,h⟩:=h
 exact⟨a,e,t.Pz s e h⟩
theorem aO.back {H H':Hp} (s:aq H H'):∀ {xs:List V}{ns:List Nd},(∀ x∈xs,wD H x)→aO H' xs ns→aO H xs ns
 | [],[],_,h=>h
 | x::xs,_::_,t,h=>⟨h.1.back (t x List.mem_cons_self) s,aO.back s (fun y hy=>t y (List.mem_cons_of_mem _ hy)) h.2⟩
 | [],_::_,_,h=>h.elim
 | _::_,[],_,h=>h.elim
theorem Dg.back {H H':Hp}{v:V} (t:Jn H v) (s:aq H H') (g:Dg H' v):Dg H v:=by
 obtain⟨a,xs,ns,e,h,l,m,d⟩:=g
 have h0:=t.1.back s e h
 exact⟨a,xs,ns,e,h0,l,m.back s fun x hx=>(t.2 a xs e h0 x hx).1,d⟩
theorem wD.isTup {K:PySem.W.Frag}{H:Hp}{v:V} (t:wD H v):∃ y b,wM K H v y∧PySem.W.kitOne K y (.type "tuple")=some b∧((b=true∧∃ a xs,v=.ref a∧H a=some (.tup xs))∨(b=false∧∀ a xs,v=.ref a→H a≠some (.tup xs))):=by
 cases t with
 | cU=>exact⟨_,false,.cU,by kernel_rfl,.inr ⟨rfl,fun _ _ z=>nomatch z⟩⟩
 | bl b=>exact⟨_,false,.bl b,by kernel_rfl,.inr ⟨rfl,fun _ _ z=>nomatch z⟩⟩
 | int i=>exact⟨_,false,.int i,by kernel_rfl,.inr ⟨rfl,fun _ _ z=>nomatch z⟩⟩
 | str x h=>exact⟨_,false,.str x,by kernel_rfl,.inr ⟨rfl,fun _ _ z=>nomatch z⟩⟩
 | lst h=>exact⟨_,false,.lst h,by kernel_rfl,.inr ⟨rfl,fun _ _ z e=>by cases z;rw[h] at e;cases e⟩⟩
 | tup h=>exact⟨_,true,.tup h,by kernel_rfl,.inl ⟨rfl,_,_,rfl,h⟩⟩
theorem Nq {H:Hp}{a:Addr}{A R:List V}{b:V}{ns:List Nd} (h:H a=some (.lst (A++b::R))) (hA:aO H A ns) (hb:∀ n,ka H b n→¬ (d6 n.1=true∧0≤n.2∧n.2≤gn 0 ns)):¬ Dg H (.ref a):=by
 rintro⟨a',GZ,ms,e,h',l,m,d⟩
 cases e
 rw[h] at h'
 cases h'
 obtain⟨n1,n2,rfl,m1,m2⟩:=m.split
 cases n2 with
 | nil=>exact m2.elim
 | cons n r =>
  have:=m1.uniq hA
  subst this
  have d2:=(gb.mp d).2
  exact hb n m2.1 ⟨d2.1,d2.2.1,d2.2.2.1⟩
theorem Nr {H:Hp}{a:Addr}{xs:List V} (h:H a=some (.tup xs)) (hx:∀ x∈xs,wD H x):FT H (.ref a):=⟨.tup h,fun a' GZ e h' x m=>by cases e;rw[h] at h';cases h';exact hx x m⟩
theorem Hq {H:Hp}{a:Addr}{xs:List V} (h:H a=some (.lst xs)) (hx:∀ x∈xs,FT H x):Jn H (.ref a):=⟨.lst h,fun a' GZ e h' x m=>by cases e;rw[h] at h';cases h';exact hx x m⟩
theorem ka.Nt {H:Hp}{x:V}{n:Nd} (h:ka H x n) (hm:n.1.length≤1000):FT H x:=by
 obtain⟨t,e,h⟩:=h
 subst e
 refine Nr h fun y hy=>?_
 simp only[List.mem_cons,List.not_mem_nil,or_false] at hy
 rcases hy with rfl | rfl
 ·exact .str _ hm
 ·exact .int _
theorem aO.Nt {H:Hp}:∀ {xs:List V}{ns:List Nd},aO H xs ns→(∀ n∈ns,n.1.length≤1000)→∀ x∈xs,FT H x
 | [],[],_,_,_,hx=>nomatch hx
 | y::xs,n::ns,h,hm,x,hx=>by
  rcases List.mem_cons.mp hx with e | e
  ·rw[e];exact h.1.Nt (hm n List.mem_cons_self)
  ·exact aO.Nt h.2 (fun m Lk=>hm m (List.mem_cons_of_mem _ Lk)) x e
 | [],_::_,h,_,_,_=>h.elim
 | _::_,[],h,_,_,_=>h.elim
def VS (ns:List Nd):List PyData:=ns.map fun n=>.tuple [.str n.1,.int n.2]
theorem aO.dat {K:PySem.W.Frag}{H:Hp}:∀ {xs:List V}{ns:List Nd},aO H xs ns→nL K H xs (VS ns)
 | [],[],_=>.nil
 | _::_,_::_,h=>by
  obtain⟨⟨t,e,h1⟩,h2⟩:=h
  subst e
  exact .cons (.tup (df.of h1) (.cons (.str _) (.cons (.int _) .nil))) (aO.dat h2)
 | [],_::_,h=>h.elim
 | _::_,[],h=>h.elim
end SH
namespace L2
open PySem PySem.Spec PyProof.Rows
theorem ak {a b:TS}{D:Ends}{σ:St}{H:Hp} (h:∀ B:TS,B=b→tSeq a B D σ H):tSeq a b D σ H:=h b rfl
def VT (lo st:Int) (n:Nat):It:=⟨fun i _=>i<n,fun i H x H'=>H'=H∧x=.int (lo+i*st),fun i _=>n≤i⟩
section
variable {X:Cx}{tg:Expr}
def iRng3 (ta:TA):TI:=fun σ H R=>ta σ H fun vs H1=>∃ j c:Int,vs=[.int 0,.int j,.int c]∧(-1000≤j∧j≤1000∧1≤c∧c≤1000)∧∀ n:Nat,(∀ i:Nat,i<n→(i:Int)*c<j)→R (VT 0 c n) H1
end
theorem br.Ta {N:List Str}{sc scope:Scope}{own cap:List Str}{ix:List Nat}{env:Env} (S:br N sc scope own cap ix):br N (relabel sc env) scope own cap ix where
 kind:=S.kind
 cell:=S.cell
 names:=S.names
 free:=S.free
 SN:=S.SN
 FN:=S.FN
 out:=fun x hx=>by
  rcases S.out x hx with h | h
  ·rcases jx (env:=env) h with q | ⟨_,q⟩
   ·exact .inl q
   ·exact .inl q
  ·rcases jx (env:=env) h with q | ⟨_,q⟩
   ·exact .inr q
   ·exact .inl q
 QK:=S.QK
 nd:=S.nd
end L2
namespace SH
open PySem L2
def wj (f:List V→HO) (H:Hp) (x:V) (l:List V):Prop:=∃ a,x=.ref a∧H a=some (f l)
def aN (f:List V→HO) (H:Hp):List V→List (List V)→Prop
 | [],[]=>True
 | x::xs,n::ns=>wj f H x n∧aN f H xs ns
 | [],_::_=>False
 | _::_,[]=>False
section
variable {f:List V→HO}{H H':Hp}
theorem wj.same {x:V}{n:List V} (s:aq H H') (h:wj f H x n):wj f H' x n:=by
 obtain⟨t,e,h⟩:=h
 exact⟨t,e,s _ _ h⟩
theorem aN.keep (s:∀ b ys,H b=some (f ys)→H' b=some (f ys)):∀ {xs:List V}{ns:List (List V)},aN f H xs ns→aN f H' xs ns
 | [],[],h=>h
 | _::_,_::_,h=>by
  obtain⟨⟨t,e,h1⟩,h2⟩:=h
  exact⟨⟨t,e,s _ _ h1⟩,aN.keep s h2⟩
 | [],_::_,h=>h.elim
 | _::_,[],h=>h.elim
theorem aN.same (s:aq H H') {xs:List V}{ns:List (List V)} (h:aN f H xs ns):aN f H' xs ns:=h.keep fun b ys e=>s b _ e
theorem aN.length:∀ {xs:List V}{ns:List (List V)},aN f H xs ns→xs.length=ns.length
 | [],[],_=>rfl
 | _::_,_::_,h=>by rw[List.length_cons,List.length_cons,aN.length h.2]
 | [],_::_,h=>h.elim
 | _::_,[],h=>h.elim
theorem aN.append:∀ {xs ys:List V}{ns ms:List (List V)},aN f H xs ns→aN f H ys ms→aN f H (xs++ys) (ns++ms)
 | [],_,[],_,_,b=>b
 | _::_,_,_::_,_,a,b=>⟨a.1,aN.append a.2 b⟩
 | [],_,_::_,_,a,_=>a.elim
 | _::_,_,[],_,a,_=>a.elim
theorem aN.get:∀ {xs:List V}{ns:List (List V)}{i:Nat}{x:V},aN f H xs ns→xs[i]? = some x→∃ n,ns[i]? = some n∧wj f H x n
 | [],[],_,_,_,e=>by simp at e
 | _::_,n::_,0,_,h,e=>by simp at e;subst e;exact⟨n,rfl,h.1⟩
 | _::_,_::_,i+1,x,h,e=>by
  obtain⟨m,a,b⟩:=aN.get (i:=i) (x:=x) h.2 (by simpa using e)
  exact⟨m,by simpa using a,b⟩
 | [],_::_,_,_,h,_=>h.elim
 | _::_,[],_,_,h,_=>h.elim
theorem aN.take:∀ {xs:List V}{ns:List (List V)} (i:Nat),aN f H xs ns→aN f H (xs.take i) (ns.take i)
 | [],[],_,_=>by simp [aN]
 | _::_,_::_,0,_=>trivial
 | _::_,_::_,i+1,h=>⟨h.1,aN.take i h.2⟩
 | [],_::_,_,h=>h.elim
 | _::_,[],_,h=>h.elim
theorem aN.drop:∀ {xs:List V}{ns:List (List V)} (i:Nat),aN f H xs ns→aN f H (xs.drop i) (ns.drop i)
 | [],[],_,_=>by simp [aN]
 | _::_,_::_,0,h=>h
 | _::_,_::_,i+1,h=>aN.drop i h.2
 | [],_::_,_,h=>h.elim
 | _::_,[],_,h=>h.elim
theorem aN.mem:∀ {xs:List V}{ns:List (List V)}{x:V},aN f H xs ns→x∈xs→∃ n∈ns,wj f H x n
 | [],_,_,_,h=>nomatch h
 | y::xs,n::ns,x,h,hx=>by
  rcases List.mem_cons.mp hx with e | e
  ·rw[e];exact⟨n,List.mem_cons_self,h.1⟩
  ·obtain⟨m,hm,r⟩:=aN.mem h.2 e
   exact⟨m,List.mem_cons_of_mem _ hm,r⟩
 | _::_,[],_,h,_=>h.elim
end
theorem wj.uniq {H:Hp}{x:V}{n m:List V} (a:wj .lst H x n) (b:wj .lst H x m):n=m:=by
 obtain⟨t,e,h⟩:=a
 obtain⟨t',e',h'⟩:=b
 rw[e] at e'
 cases e'
 rw[h] at h'
 cases h'
 rfl
theorem aN.uniq {H:Hp}:∀ {xs:List V}{ns ms:List (List V)},aN .lst H xs ns→aN .lst H xs ms→ns=ms
 | [],[],[],_,_=>rfl
 | _::_,_::_,_::_,a,b=>by rw[a.1.uniq b.1,aN.uniq a.2 b.2]
 | [],_::_,_,a,_=>a.elim
 | [],_,_::_,_,b=>b.elim
 | _::_,[],_,a,_=>a.elim
 | _::_,_,[],_,b=>b.elim
def qw (w:Nat) (l:List V):Prop:=l.length=w∧l.all markV=true
def BY (ls:List (List V)):Prop:=∃ w,w≤12∧∀ l∈ls,qw w l
def Jo (H:Hp) (v:V):Prop:=wD H v∧∀ a xs,v=.ref a→H a=some (.lst xs)→∀ x∈xs,Ah H x
def BZ (H:Hp) (v:V):Prop:=∃ a xs ls,v=.ref a∧H a=some (.lst xs)∧xs.length≤12∧aN .lst H xs ls∧BY ls
theorem Jo.same {H H':Hp}{v:V} (s:aq H H') (t:Jo H v):Jo H' v:=⟨t.1.same s,fun a xs e h x hx=>(t.2 a xs e (t.1.back s e h) x hx).same s⟩
theorem aN.back {H H':Hp} (s:aq H H'):∀ {xs:List V}{ns:List (List V)},(∀ x∈xs,wD H x)→aN .lst H' xs ns→aN .lst H xs ns
 | [],[],_,h=>h
 | x::xs,_::_,t,h=>by
  obtain⟨⟨a,e,h1⟩,h2⟩:=h
  exact⟨⟨a,e,(t x List.mem_cons_self).back s e h1⟩,aN.back s (fun y hy=>t y (List.mem_cons_of_mem _ hy)) h2⟩
 | [],_::_,_,h=>h.elim
 | _::_,[],_,h=>h.elim
theorem BZ.back {H H':Hp}{v:V} (t:Jo H v) (s:aq H H') (g:BZ H' v):BZ H v:=by
 obtain⟨a,xs,ns,e,h,l,m,d⟩:=g
 have h0:=t.1.back s e h
 exact⟨a,xs,ns,e,h0,l,m.back s fun x hx=>(t.2 a xs e h0 x hx).1,d⟩
theorem Nu {H:Hp}{a:Addr}{xs:List V}{b:V} (h:H a=some (.lst xs)) (hm:b∈xs) (hb:¬ wU 12 H b):¬ BZ H (.ref a):=by
 rintro⟨a',GZ,ns,e,h',l,r,w,hw,FL⟩
 cases e
 rw[h] at h'
 cases h'
 obtain⟨n,hn,c,e,hc⟩:=r.mem hm
 obtain⟨h1,h2⟩:=FL n hn
 exact hb ⟨c,n,e,hc,by omega,h2⟩
theorem Nv {H:Hp}{a:Addr}{xs:List V}{b c:V}{l1 l2:List V} (h:H a=some (.lst xs)) (hm:b∈xs) (RT:c∈xs) (h1:wj .lst H b l1) (h2:wj .lst H c l2) (sN:l1.length≠l2.length):¬ BZ H (.ref a):=by
 rintro⟨a',GZ,ns,e,h',l,r,w,hw,FL⟩
 cases e
 rw[h] at h'
 cases h'
 obtain⟨n,hn,r1⟩:=r.mem hm
 obtain⟨m,Lk,r2⟩:=r.mem RT
 have e1:=r1.uniq h1
 have e2:=r2.uniq h2
 subst e1 e2
 exact sN ((FL _ hn).1.trans (FL _ Lk).1.symm)
theorem Nw {H:Hp}{a:Addr}{xs:List V} (h:H a=some (.lst xs)) (hx:∀ x∈xs,Ah H x):Jo H (.ref a):=⟨.lst h,fun a' GZ e h' x m=>by cases e;rw[h] at h';cases h';exact hx x m⟩
theorem Dh {H:Hp}{l:List V} (h:l.all markV=true):∀ x∈l,wD H x:=fun x hx=>by
 have h1:=List.all_eq_true.mp h x hx
 cases x with
 | str z =>
  have:=(Aj (show d6 z=true from h1)).2.1
  exact .str _ (by omega)
 | _=>cases h1
theorem aN.Tb {H:Hp}{xs:List V}{ls:List (List V)} (r:aN .lst H xs ls) (hm:∀ l∈ls,l.all markV=true):∀ x∈xs,Ah H x:=fun x hx=>by
 obtain⟨n,hn,c,e,hc⟩:=r.mem hx
 subst e
 exact Ai hc (Dh (hm n hn))
def Di:V→PyData
 | .str z=>.str z
 | _=>.none
theorem pY {K:PySem.W.Frag}{H:Hp}:∀ {l:List V},l.all markV=true→nL K H l (l.map Di)
 | [],_=>.nil
 | x::r,h=>by
  rw[List.all_cons,Bool.and_eq_true] at h
  cases x with
  | str z=>exact .cons (.str _) (pY h.2)
  | _=>cases h.1
theorem nN:∀ {l:List V},l.all markV=true→PyData.canLayAll0 (l.map Di)=true
 | [],_=>rfl
 | x::r,h=>by
  rw[List.all_cons,Bool.and_eq_true] at h
  have ih:=nN h.2
  cases x with
  | str z =>
   have h1:=y6 (show d6 z=true from h.1)
   simp only[List.map_cons,Di,PyData.canLayAll0,PyData.canLay0,h1,ih,Bool.and_self]
  | _=>cases h.1
theorem pZ:∀ l:List V,PyData.depthAll (l.map Di)≤0
 | []=>Nat.le_refl _
 | x::r=>by
  have ih:=pZ r
  cases x<;>simp only[List.map_cons,Di,PyData.depthAll,PyData.depth]<;>omega
theorem Ak:∀ {ls:List (List V)},(∀ l∈ls,l.all markV=true)→PyData.canLayAll0 (ls.map fun l=>PyData.list (l.map Di))=true
 | [],_=>rfl
 | n::r,h=>by
  have h1:=nN (h n List.mem_cons_self)
  have h2:=Ak (ls:=r) fun y hy=>h y (List.mem_cons_of_mem _ hy)
  simp only[List.map_cons,PyData.canLayAll0,PyData.canLay0,h1,h2,Bool.and_self]
theorem B0:∀ {ls:List (List V)},(∀ l∈ls,l.all markV=true)→PyData.canLayAll0 (ls.map fun l=>PyData.tuple (l.map Di))=true
 | [],_=>rfl
 | n::r,h=>by
  have h1:=nN (h n List.mem_cons_self)
  have h2:=B0 (ls:=r) fun y hy=>h y (List.mem_cons_of_mem _ hy)
  simp only[List.map_cons,PyData.canLayAll0,PyData.canLay0,h1,h2,Bool.and_self]
theorem B1:∀ ls:List (List V),PyData.depthAll (ls.map fun l=>PyData.list (l.map Di))≤1
 | []=>Nat.zero_le _
 | n::r=>by
  have h2:=B1 r
  have h1:=pZ n
  simp only[List.map_cons,PyData.depthAll,PyData.depth]
  omega
theorem Dj:∀ ls:List (List V),PyData.depthAll (ls.map fun l=>PyData.tuple (l.map Di))≤1
 | []=>Nat.zero_le _
 | n::r=>by
  have h2:=Dj r
  have h1:=pZ n
  simp only[List.map_cons,PyData.depthAll,PyData.depth]
  omega
theorem aN.Tc {K:PySem.W.Frag}{H:Hp}:∀ {xs:List V}{ls:List (List V)},(∀ l∈ls,l.all markV=true)→aN .lst H xs ls→nL K H xs (ls.map fun l=>PyData.list (l.map Di))
 | [],[],_,_=>.nil
 | _::_,n::_,hm,h=>by
  obtain⟨⟨t,e,h1⟩,h2⟩:=h
  subst e
  exact .cons (.lst (bA.of h1) (pY (hm n List.mem_cons_self))) (aN.Tc (fun y hy=>hm y (List.mem_cons_of_mem _ hy)) h2)
 | [],_::_,_,h=>h.elim
 | _::_,[],_,h=>h.elim
theorem aN.Td {K:PySem.W.Frag}{H:Hp}:∀ {xs:List V}{ls:List (List V)},(∀ l∈ls,l.all markV=true)→aN .tup H xs ls→nL K H xs (ls.map fun l=>PyData.tuple (l.map Di))
 | [],[],_,_=>.nil
 | _::_,n::_,hm,h=>by
  obtain⟨⟨t,e,h1⟩,h2⟩:=h
  subst e
  exact .cons (.tup (df.of h1) (pY (hm n List.mem_cons_self))) (aN.Td (fun y hy=>hm y (List.mem_cons_of_mem _ hy)) h2)
 | [],_::_,_,h=>h.elim
 | _::_,[],_,h=>h.elim
def yL (ls:List (List V)):Nat:=(ls.headD []).length
theorem Hr {ls:List (List V)} (h:BY ls):yL ls≤12:=by
 obtain⟨w,hw,ha⟩:=h
 cases ls with
 | nil=>exact Nat.zero_le _
 | cons l r=>show l.length≤12;rw[(ha l List.mem_cons_self).1];exact hw
theorem A5 {ls:List (List V)} (h:BY ls):∀ l∈ls,qw (yL ls) l:=fun l hl=>by
 obtain⟨w,hw,ha⟩:=h
 cases ls with
 | nil=>exact nomatch hl
 | cons l0 r =>
  have e:yL (l0::r)=w:=(ha l0 List.mem_cons_self).1
  rw[e]
  exact ha l hl
theorem L8 {ls:List (List V)} (h:BY ls):∀ l∈ls,l.all markV=true:=fun l hl=>(A5 h l hl).2
theorem y7 {ls:List (List V)} (h:∀ l∈ls,l.all markV=true):ls.flatten.all markV=true:=by
 rw[List.all_eq_true]
 intro x hx
 obtain⟨l,hl,z4⟩:=List.mem_flatten.mp hx
 exact List.all_eq_true.mp (h l hl) x z4
theorem Nx {ls:List (List V)} (h:∀ l∈ls,l.length≤12):ls.flatten.length≤12*ls.length:=by
 induction ls with
 | nil=>exact Nat.le_refl _
 | cons l r ih =>
  have h1:=h l List.mem_cons_self
  have h2:=ih fun y hy=>h y (List.mem_cons_of_mem _ hy)
  rw[List.flatten_cons,List.length_append,List.length_cons]
  omega
theorem Te {a b c:Str}{x y z:V} (h:¬ a=c) (h':¬ b=c):oR c z [(a,x),(b,y)]=[(a,x),(b,y),(c,z)]:=by
 show (if a=c then [(a,z),(b,y)] else (a,x)::(if b=c then [(b,z)] else (b,y)::oR c z []))=_
 rw[if_neg h,if_neg h']
 rfl
theorem y8 {α:Type}{a b d c:Str}{x y z:α} (h:(c==a)=false) (h':(c==b)=false) (GY:(c==d)=false):List.lookup c [(a,x),(b,y),(d,z)]=none:=by
 rw[List.lookup_cons,h,List.lookup_cons,h',List.lookup_cons,GY]
 rfl
theorem wV {α:Type}{a b c:Str}{x y z:α} (h:(b==a)=false):List.lookup b [(a,x),(b,y),(c,z)]=some y:=by
 rw[List.lookup_cons,h,List.lookup_cons,beq_self_eq_true]
theorem Ll {α:Type}{a b c:Str}{x y z:α} (h:(c==a)=false) (h':(c==b)=false):List.lookup c [(a,x),(b,y),(c,z)]=some z:=by
 rw[List.lookup_cons,h,List.lookup_cons,h',List.lookup_cons,beq_self_eq_true]
theorem wU.same {n:Nat}{H H':Hp}{v:V} (s:aq H H') (g:wU n H v):wU n H' v:=by
 obtain⟨a,xs,e,h,r⟩:=g
 exact⟨a,xs,e,s _ _ h,r⟩
theorem aN.PB {f:List V→HO}{H H':Hp}:∀ {xs:List V}{ns:List (List V)},(∀ b ys,V.ref b∈xs→H b=some (f ys)→H' b=some (f ys))→aN f H xs ns→aN f H' xs ns
 | [],[],_,h=>h
 | _::_,_::_,s,h=>by
  obtain⟨⟨t,e,h1⟩,h2⟩:=h
  exact⟨⟨t,e,s _ _ (by rw[e];exact List.mem_cons_self) h1⟩,aN.PB (fun b ys hb=>s b ys (List.mem_cons_of_mem _ hb)) h2⟩
 | [],_::_,_,h=>h.elim
 | _::_,[],_,h=>h.elim
def NotIn (l:Addr) (xs:List V):Prop:=∀ b,V.ref b∈xs→b≠l
theorem NotIn.nil {l:Addr}:NotIn l []:=fun _ h=>nomatch h
theorem NotIn.add {l p:Addr}{xs:List V} (h:NotIn l xs) (hp:p≠l):NotIn l (xs++[.ref p]):=fun b hb=>by
 rcases List.mem_append.mp hb with h' | h'
 ·exact h b h'
 ·cases List.mem_singleton.mp h'
  exact hp
theorem aN.VU {f:List V→HO}{H:Hp}{l:Addr}{o:HO}{xs:List V}{ns:List (List V)} (n:NotIn l xs) (h:aN f H xs ns):aN f (upd H l o) xs ns:=h.PB fun b ys hb e=>by rw[aF (n b hb)];exact e
theorem NotIn.of {f:List V→HO}{H:Hp}{D:Addr}{xs:List V}{ls:List (List V)} (r:aN f H xs ls) (h:H D=none):NotIn D xs:=fun b hb=>by
 obtain⟨n,_,a,e,ha⟩:=r.mem hb
 cases e
 exact aG ha h
theorem kf {H H':Hp}{l:Addr}{o:HO} (s:aq H H') (h:H l=none):aq H (upd H' l o):=fun b u e=>by rw[aF (aG e h)];exact s b u e
theorem QW {xs:List V}{n:Nat}{i:Int} (h:i=(n:Int)):tP xs none (some i)=xs.take n:=by
 subst h
 unfold tP
 rw[HT.C7,HT.yw,List.drop_zero,Nat.sub_zero]
 apply List.ext_getElem?
 intro j
 simp only[List.getElem?_take]
 by_cases h1:j<n
 ·by_cases h2:j<xs.length
  ·rw[if_pos (by omega),if_pos h1]
  ·rw[if_neg (by omega),if_pos h1]
   exact (List.getElem?_eq_none (by omega)).symm
 ·rw[if_neg (by omega),if_neg h1]
end SH
namespace L2
open PySem PySem.Spec PyProof.Rows
theorem ao {X:Cx}{e:Expr}{t1 t2:TE} (h1:PE X e t1) (h2:PE X e t2):PE X e (fun σ H Q=>t1 σ H Q∨t2 σ H Q):=fun pins s σ H Q I h=>h.elim (h1 pins s σ H Q I) (h2 pins s σ H Q I)
end L2
namespace SH
open PySem L2
def placesOk:Int→Int→List Int→Prop
 | _,_,[]=>True
 | lo,m,p::r=>lo≤p∧p<m∧placesOk (p+1) m r
def md:Int→List Int→Int
 | lo,[]=>lo
 | _,p::r=>md (p+1) r
theorem mI:∀ {lo m:Int}{a b:List Int},placesOk lo m (a++b)↔placesOk lo m a∧placesOk (md lo a) m b
 | lo,m,[],b=>by simp [placesOk,md]
 | lo,m,p::r,b=>by
  have ih:=mI (lo:=p+1) (m:=m) (a:=r) (b:=b)
  simp only[List.cons_append,placesOk,md,ih]
  constructor
  ·rintro⟨h1,h2,h3,h4⟩;exact⟨⟨h1,h2,h3⟩,h4⟩
  ·rintro⟨⟨h1,h2,h3⟩,h4⟩;exact⟨h1,h2,h3,h4⟩
theorem wk:∀ {lo:Int}{a b:List Int},md lo (a++b)=md (md lo a) b
 | _,[],_=>rfl
 | _,p::r,b=>wk (lo:=p+1) (a:=r) (b:=b)
theorem ck:∀ {lo m:Int}{ps:List Int},placesOk lo m ps→∀ p∈ps,lo≤p∧p<m
 | _,_,[],_,_,hp=>nomatch hp
 | lo,m,q::r,h,p,hp=>by
  rcases List.mem_cons.mp hp with e | e
  ·rw[e];exact⟨h.1,h.2.1⟩
  ·have:=ck h.2.2 p e
   have:=h.1
   omega
theorem places_len:∀ {lo m:Int}{ps:List Int},placesOk lo m ps→lo≤m→(ps.length:Int)≤m-lo
 | _,_,[],_,h=>by simp;omega
 | lo,m,p::r,k,h=>by
  have ih:=places_len k.2.2 (by have:=k.2.1;omega)
  have:=k.1
  rw[List.length_cons]
  omega
def yM (m:Int) (H:Hp) (v:V):Prop:=∃ a ps,v=.ref a∧H a=some (.lst (ps.map V.int))∧placesOk 0 m ps
theorem yM.back {m:Int}{H H':Hp}{v:V} (t:wD H v) (s:aq H H') (g:yM m H' v):yM m H v:=by
 obtain⟨a,ps,e,h,r⟩:=g
 exact⟨a,ps,e,t.back s e h,r⟩
theorem wW:∀ {a b:List Int},a.map V.int=b.map V.int→a=b
 | [],[],_=>rfl
 | [],_::_,h=>by simp at h
 | _::_,[],h=>by simp at h
 | x::a,y::b,h=>by
  simp only[List.map_cons,List.cons.injEq,V.int.injEq] at h
  rw[h.1,wW h.2]
theorem Ny {m:Int}{H:Hp}{a:Addr}{ps:List Int}{x:V}{r:List V} (h:H a=some (.lst (ps.map V.int++x::r))) (hb:∀ q,x=.int q→¬ (md 0 ps≤q∧q<m)):¬ yM m H (.ref a):=by
 rintro⟨a',qs,e,h',k⟩
 cases e
 rw[h] at h'
 have e:ps.map V.int++x::r=qs.map V.int:=by injection h' with h2;injection h2
 have e2:qs=qs.take ps.length++qs.drop ps.length:=(List.take_append_drop _ _).symm
 have e3:(qs.take ps.length).map V.int=ps.map V.int:=by
  rw[List.map_take,←e,List.take_left' (by rw[List.length_map])]
 have e4:(qs.drop ps.length).map V.int=x::r:=by
  rw[List.map_drop,←e,List.drop_left' (by rw[List.length_map])]
 have e5:=wW e3
 rw[e2,e5] at k
 cases hd:qs.drop ps.length with
 | nil=>rw[hd] at e4;cases e4
 | cons q w =>
  rw[hd] at e4 k
  simp only[List.map_cons,List.cons.injEq] at e4
  have k2:=(mI.mp k).2
  exact hb q e4.1.symm ⟨k2.1,k2.2.1⟩
theorem Dk {xs:List V}{n:Nat}{i:Int} (h:i=(n:Int)):tP xs (some i) none=xs.drop n:=by
 subst h
 unfold tP
 rw[HT.C7,HT.yw]
 apply List.ext_getElem?
 intro j
 rw[List.getElem?_take]
 by_cases h1:n≤xs.length
 ·rw[Nat.min_eq_left h1]
  by_cases h2:j<xs.length-n
  ·rw[if_pos h2]
  ·rw[if_neg h2,List.getElem?_drop]
   exact (List.getElem?_eq_none (by omega)).symm
 ·rw[Nat.min_eq_right (by omega),if_neg (by omega),List.getElem?_drop]
  exact (List.getElem?_eq_none (by omega)).symm
theorem A6 {H:Hp}{a:Addr}{ps:List Int} (h:H a=some (.lst (ps.map V.int))):Ah H (.ref a):=Ai h fun x hx=>by
 obtain⟨q,_,rfl⟩:=List.mem_map.mp hx
 exact .int _
theorem B4 {lo m:Int}{ps:List Int} (i:Nat) (h:placesOk lo m ps):placesOk lo m (ps.take i):=(mI.mp (by rw[List.take_append_drop];exact h:placesOk lo m (ps.take i++ps.drop i))).1
def bB (n:Nat) (ps:List Int):List Int:=(ps.filter fun i=>decide ((n:Int)≤i)).map fun i=>i-n
def linesOf (n:Nat) (ps:List Int):List Int:=ps.filter fun i=>decide (i<(n:Int))
def iZ (ls:List (List V)) (ps:List Int):List (List V):=(linesOf ls.length ps).map fun i=>(bB ls.length ps).map fun j=>(ls.getD i.toNat []).getD j.toNat .cU
theorem wX {n:Nat}{ps:List Int}{p:Int}:linesOf n (ps++[p])=linesOf n ps++(if p<(n:Int) then [p] else []):=by
 unfold linesOf
 rw[List.filter_append]
 congr 1
 by_cases h:p<(n:Int)
 ·rw[if_pos h,List.filter_cons_of_pos (by simpa using h),List.filter_nil]
 ·rw[if_neg h,List.filter_cons_of_neg (by simpa using h),List.filter_nil]
theorem y9 {n:Nat}{ps:List Int}{p:Int}:bB n (ps++[p])=bB n ps++(if (n:Int)≤p then [p-n] else []):=by
 unfold bB
 rw[List.filter_append,List.map_append]
 congr 1
 by_cases h:(n:Int)≤p
 ·rw[if_pos h,List.filter_cons_of_pos (by simpa using h),List.filter_nil];rfl
 ·rw[if_neg h,List.filter_cons_of_neg (by simpa using h),List.filter_nil];rfl
theorem sV {n:Nat}:∀ {lo m:Int}{ps:List Int},placesOk lo m ps→((linesOf n ps).length:Int)≤max ((n:Int)-lo) 0
 | lo,m,[],_=>by simp [linesOf];omega
 | lo,m,p::r,k=>by
  have ih:=sV (n:=n) k.2.2
  have h1:=k.1
  unfold linesOf at ih ⊢
  by_cases h:p<(n:Int)
  ·rw[List.filter_cons_of_pos (by simpa using h),List.length_cons];omega
  ·rw[List.filter_cons_of_neg (by simpa using h)];omega
theorem u9 {n:Nat}:∀ {lo m:Int}{ps:List Int},placesOk lo m ps→((bB n ps).length:Int)≤max (m-max (n:Int) lo) 0
 | lo,m,[],_=>by simp [bB];omega
 | lo,m,p::r,k=>by
  have ih:=u9 (n:=n) k.2.2
  have h1:=k.1
  have h2:=k.2.1
  unfold bB at ih ⊢
  rw[List.length_map] at ih ⊢
  by_cases h:(n:Int)≤p
  ·rw[List.filter_cons_of_pos (by simpa using h),List.length_cons];omega
  ·rw[List.filter_cons_of_neg (by simpa using h)];omega
theorem nv {n:Nat}{m:Int}{ps:List Int} (k:placesOk 0 m ps):∀ i∈linesOf n ps,0≤i∧i<(n:Int):=fun i hi=>by
 obtain⟨h1,h2⟩:=List.mem_filter.mp hi
 exact⟨(ck k i h1).1,by simpa using h2⟩
theorem rp {n w:Nat}{ps:List Int} (k:placesOk 0 ((n:Int)+(w:Int)) ps):∀ i∈bB n ps,0≤i∧i<(w:Int):=fun i hi=>by
 obtain⟨j,hj,rfl⟩:=List.mem_map.mp hi
 obtain⟨h1,h2⟩:=List.mem_filter.mp hj
 have h3:(n:Int)≤j:=by simpa using h2
 have:=(ck k j h1).2
 omega
theorem QX {a b c:Str}{x y z z':V} (h:¬ a=c) (h':¬ b=c):oR c z' [(a,x),(b,y),(c,z)]=[(a,x),(b,y),(c,z')]:=by
 show (if a=c then [(a,z'),(b,y),(c,z)] else (a,x)::(if b=c then [(b,z'),(c,z)] else (b,y)::(if c=c then [(c,z')] else (c,z)::oR c z' [])))=_
 rw[if_neg h,if_neg h',if_pos rfl]
theorem wY {n:Nat}:∀ (ps:List Int),(linesOf n ps).length+(bB n ps).length=ps.length
 | []=>rfl
 | p::r=>by
  have ih:=wY (n:=n) r
  unfold linesOf bB at ih ⊢
  rw[List.length_map] at ih ⊢
  by_cases h:p<(n:Int)
  ·rw[List.filter_cons_of_pos (by simpa using h),List.filter_cons_of_neg (by simp;omega),List.length_cons,List.length_cons];omega
  ·rw[List.filter_cons_of_neg (by simpa using h),List.filter_cons_of_pos (by simp;omega),List.length_cons,List.length_cons];omega
end SH
namespace L2
open PySem PySem.Spec PyProof.Rows
section
variable {κ:Type} [DecidableEq κ]
def qx (cR:List (κ×V)) (k:κ):Option V:=(cR.find? fun kv=>decide (kv.1=k)).map (·.2)
def putK (cR:List (κ×V)) (k:κ) (v:V):List (κ×V) :=
 if (cR.any fun kv=>decide (kv.1=k))=true then cR.map (fun kv=>if kv.1=k then (kv.1,v) else kv) else cR++[(k,v)]
def PD (cR:List (κ×V)) (k:κ):List (κ×V):=cR.filter fun kv=>decide (kv.1≠k)
theorem kA {p:κ×V}{r:List (κ×V)}{k:κ} (e:p.1=k):qx (p::r) k=some p.2:=by simp [qx,List.find?_cons,e]
theorem kB {p:κ×V}{r:List (κ×V)}{k:κ} (e:¬ p.1=k):qx (p::r) k=qx r k:=by simp [qx,List.find?_cons,e]
theorem Al (k:κ):∀ cR:List (κ×V),(cR.any fun kv=>decide (kv.1=k))=(qx cR k).isSome
 | []=>rfl
 | p::r=>by
  rw[List.any_cons]
  by_cases e:p.1=k
  ·simp only[kA e,decide_eq_true e,Bool.true_or,Option.isSome_some]
  ·rw[kB e,decide_eq_false e,Bool.false_or];exact Al k r
theorem Hs (k j:κ) (y:V):∀ cR:List (κ×V),qx (cR.map fun kv=>if kv.1=k then (kv.1,y) else kv) j=(qx cR j).map fun x=>if j=k then y else x
 | []=>rfl
 | p::r=>by
  have ih:=Hs k j y r
  rw[List.map_cons]
  by_cases h:p.1=k
  ·rw[if_pos h]
   by_cases e:p.1=j
   ·rw[kA (p:=(p.1,y)) e,kA e,Option.map_some,if_pos (e.symm.trans h)]
   ·rw[kB (p:=(p.1,y)) e,kB e,ih]
  ·rw[if_neg h]
   by_cases e:p.1=j
   ·rw[kA (p:=p) e,kA e,Option.map_some,if_neg (fun z=>h (e.trans z))]
   ·rw[kB (p:=p) e,kB e,ih]
theorem Fh (k j:κ) (y:V):∀ cR:List (κ×V),qx cR k=none→qx (cR++[(k,y)]) j=if j=k then some y else qx cR j
 | [],_=>by
  by_cases e:k=j
  ·rw[if_pos e.symm];exact kA (p:=(k,y)) e
  ·rw[if_neg (fun z=>e z.symm)];exact kB (p:=(k,y)) e
 | p::r,hn=>by
  rw[List.cons_append]
  have hk:¬ p.1=k:=fun z=>by rw[kA z] at hn;cases hn
  rw[kB hk] at hn
  have ih:=Fh k j y r hn
  by_cases e:p.1=j
  ·rw[kA e,kA e,if_neg (fun z=>hk (e.trans z))]
  ·rw[kB e,kB e,ih]
theorem Nz (cR:List (κ×V)) (k j:κ) (y:V):qx (putK cR k y) j=if j=k then some y else qx cR j:=by
 unfold putK
 by_cases a:(cR.any fun kv=>decide (kv.1=k))=true
 ·rw[if_pos a,Hs]
  rw[Al] at a
  by_cases e:j=k
  ·obtain⟨x,hx⟩:=Option.isSome_iff_exists.mp a
   rw[if_pos e,e,hx,Option.map_some,if_pos rfl]
  ·rw[if_neg e]
   cases qx cR j with
   | none=>rfl
   | some x=>rw[Option.map_some,if_neg e]
 ·rw[if_neg a]
  refine Fh k j y cR ?_
  rw[Al] at a
  cases q:qx cR k with
  | none=>rfl
  | some x=>rw[q] at a;exact (a rfl).elim
theorem Ht (cR:List (κ×V)) (k:κ) (v:V):(putK cR k v).length≤cR.length+1:=by
 unfold putK
 split
 ·rw[List.length_map];omega
 ·rw[List.length_append,List.length_cons,List.length_nil];omega
theorem yD.A7 {o:Option V}{u:Option Value} (r:yD o u):o.isSome=u.isSome:=by
 cases o with
 | none=>cases u with
  | none=>rfl
  | some _=>exact (show False from r).elim
 | some _=>cases u with
  | none=>exact (show False from r).elim
  | some _=>rfl
theorem yD.getD {o:Option V}{u:Option Value}{d:V}{d':Value} (r:yD o u) (rd:RelV d d'):RelV (o.getD d) (u.getD d'):=by
 cases o with
 | none=>cases u with
  | none=>exact rd
  | some _=>exact (show False from r).elim
 | some _=>cases u with
  | none=>exact (show False from r).elim
  | some _=>exact r
theorem KV.val {cR:List (κ×V)}{vs:List (κ×Value)} (r:KV cR vs) (k:κ):yD (qx cR k) (valueAt vs k):=by
 unfold KV at r
 induction r with
 | nil=>exact True.intro
 | @cons p q ps qs h t ih =>
  obtain⟨h1,h2⟩:=h
  by_cases e:p.1=k
  ·have e':q.1=k:=h1.symm.trans e
   have b:valueAt (q::qs) k=some q.2:=by simp [valueAt,List.find?_cons,e']
   rw[kA e,b];exact h2
  ·have e':¬ q.1=k:=fun z=>e (h1.trans z)
   have b:valueAt (q::qs) k=valueAt qs k:=by simp [valueAt,List.find?_cons,e']
   rw[kB e,b];exact ih
theorem KV.any {cR:List (κ×V)}{vs:List (κ×Value)} (r:KV cR vs) (k:κ):(cR.any fun kv=>decide (kv.1=k))=vs.any fun kv=>decide (kv.1=k):=by
 unfold KV at r
 induction r with
 | nil=>rfl
 | cons h t ih=>rw[List.any_cons,List.any_cons,ih,h.1]
theorem KV.QY {cR:List (κ×V)}{vs:List (κ×Value)} (r:KV cR vs) (k:κ) {y:V}{u:Value} (ry:RelV y u) :
  KV (cR.map fun kv=>if kv.1=k then (kv.1,y) else kv) (vs.map fun kv=>if kv.1=k then (kv.1,u) else kv):=by
 unfold KV at r ⊢
 induction r with
 | nil=>exact .nil
 | @cons p q ps qs h t ih =>
  rw[List.map_cons,List.map_cons]
  refine .cons ?_ ih
  obtain⟨h1,h2⟩:=h
  by_cases e:p.1=k
  ·rw[if_pos e,if_pos (h1.symm.trans e)];exact⟨h1,ry⟩
  ·rw[if_neg e,if_neg (fun z=>e (h1.trans z))];exact⟨h1,h2⟩
theorem KV.put {cR:List (κ×V)}{vs:List (κ×Value)} (r:KV cR vs) (k:κ) {y:V}{u:Value} (ry:RelV y u):KV (putK cR k y) (stored vs k u):=by
 unfold putK stored
 rw[r.any k]
 by_cases e:(vs.any fun kv=>decide (kv.1=k))=true
 ·rw[if_pos e,if_pos e];exact r.QY k ry
 ·rw[if_neg e,if_neg e];exact Paired.snoc r ⟨rfl,ry⟩
theorem KV.drop {cR:List (κ×V)}{vs:List (κ×Value)} (r:KV cR vs) (k:κ):KV (PD cR k) (without vs k):=by
 unfold KV at r ⊢
 unfold PD without
 induction r with
 | nil=>exact .nil
 | @cons p q ps qs h t ih =>
  obtain⟨h1,h2⟩:=h
  rw[List.filter_cons,List.filter_cons]
  by_cases e:p.1=k
  ·have a:¬ decide (p.1≠k)=true:=by simp [e]
   have b:¬ decide (q.1≠k)=true:=by simp [h1.symm.trans e]
   rw[if_neg a,if_neg b];exact ih
  ·have e':¬ q.1=k:=fun z=>e (h1.trans z)
   have a:decide (p.1≠k)=true:=by simp [e]
   have b:decide (q.1≠k)=true:=by simp [e']
   rw[if_pos a,if_pos b];exact .cons ⟨h1,h2⟩ ih
theorem KV.length {cR:List (κ×V)}{vs:List (κ×Value)} (r:KV cR vs):cR.length=vs.length:=Paired.length r
end
theorem NA {P:Program}{w:World}{k:Key}{u:Value} (r:RelV (kV k) u):(gi P w).is k u=true:=by
 cases k with
 | inl i=>obtain⟨t,e⟩:=(show ∃ t,u=Value.int i t from r);subst e;exact G4 P w i t
 | inr x=>obtain⟨t,e⟩:=(show ∃ t,u=Value.str x t from r);subst e;exact G5 P w x t
theorem Fi {P:Program}{w:World}:∀ {ks:List Key}{us:List Value},Vals (ks.map kV) us→ItemsAre (gi P w) ks us
 | [],_,r=>by rw[List.map_nil] at r;cases r;exact .nil
 | k::ks,_,r=>by
  rw[List.map_cons] at r
  cases r with
  | cons h t=>exact .cons (NA h) (Fi t)
abbrev KT (H:Hp):List (List Key×V)→List (List Key×Addr×Value)→Prop:=Paired fun p q=>p.1=q.1∧H q.2.1=some (.tup (p.1.map kV))∧RelV p.2 q.2.2
theorem KT.val {H:Hp}{cR:List (List Key×V)}{xs:List (List Key×Addr×Value)} (r:KT H cR xs) (k:List Key):yD (qx cR k) ((atKey xs k).map (·.2)):=by
 induction r with
 | nil=>exact True.intro
 | @cons p q ps qs h t ih =>
  obtain⟨h1,_,h2⟩:=h
  by_cases e:p.1=k
  ·have e':q.1=k:=h1.symm.trans e
   have b:atKey (q::qs) k=some q.2:=by simp [atKey,List.find?_cons,e']
   rw[kA e,b];exact h2
  ·have e':¬ q.1=k:=fun z=>e (h1.trans z)
   have b:atKey (q::qs) k=atKey qs k:=by simp [atKey,List.find?_cons,e']
   rw[kB e,b];exact ih
theorem KT.QY {H:Hp}{cR:List (List Key×V)}{xs:List (List Key×Addr×Value)} (r:KT H cR xs) (k:List Key) {y:V}{u:Value} (ry:RelV y u) :
  KT H (cR.map fun kv=>if kv.1=k then (kv.1,y) else kv) (xs.map (putAt k u)):=by
 induction r with
 | nil=>exact .nil
 | @cons p q ps qs h t ih =>
  rw[List.map_cons,List.map_cons]
  refine .cons ?_ ih
  obtain⟨h1,h2,h3⟩:=h
  unfold putAt
  by_cases e:p.1=k
  ·rw[if_pos e,if_pos (h1.symm.trans e)];exact⟨h1,h2,ry⟩
  ·rw[if_neg e,if_neg (fun z=>e (h1.trans z))];exact⟨h1,h2,h3⟩
theorem KT.put {H:Hp}{cR:List (List Key×V)}{xs:List (List Key×Addr×Value)} (r:KT H cR xs) (k:List Key) {b:Addr}{y:V}{u:Value} (hb:H b=some (.tup (k.map kV))) (ry:RelV y u) :
  KT H (putK cR k y) (storedH xs k b u):=by
 have e:(cR.any fun kv=>decide (kv.1=k))=(atKey xs k).isSome:=by
  rw[Al,(r.val k).A7,Option.isSome_map]
 unfold putK storedH
 rw[e]
 by_cases q:(atKey xs k).isSome=true
 ·rw[if_pos q,if_pos q];exact r.QY k ry
 ·rw[if_neg q,if_neg q];exact Paired.snoc r ⟨rfl,hb,ry⟩
theorem KT.keeps {H H':Hp}{cR:List (List Key×V)}{xs:List (List Key×Addr×Value)} (r:KT H cR xs) (ht:∀ b ys,H b=some (.tup ys)→H' b=some (.tup ys)):KT H' cR xs :=
 Paired.Qf r fun _ _ z=>⟨z.1,ht _ _ z.2.1,z.2.2⟩
section
variable {P:Program}{w:World}{H:Hp}{h:Heap}{a:Addr}
theorem PF {u:HO} (ok:wg P w H h) (e:Rd H a u):gj P w H h a u:=e.ok ok
theorem Tf {cR:List (Key×V)} (ok:wg P w H h) (e:Rd H a (.dK cR)):cR.length≤sizeLine∧(a==sysModules)=false∧∃ vs,KV cR vs∧h.DictOf (gi P w) a vs :=
 show gj P w H h a (.dK cR) from PF ok e
theorem NB {ks:List Key} (ok:wg P w H h) (e:H a=some (.tup (ks.map kV))):(tupleKind (gi P w)).is h ks a:=by
 obtain⟨_,bF,r,o,h1,h2,n,h3⟩:=(show gj P w H h a (.tup (ks.map kV)) from ok a _ e)
 exact⟨o,bF.toArray,n,h1,h2,h3,by simpa using Fi r⟩
theorem Tg {cR:List (List Key×V)} (ok:wg P w H h) (e:Rd H a (.dT cR)):cR.length≤sizeLine∧(a==sysModules)=false ∧
  ∃ xs,KT H cR xs∧h.DictOfH (tupleKind (gi P w)) a xs:=by
 obtain⟨z,y,xs,r,o,es,ep,h1,h2,h3,h4,h5⟩:=(show gj P w H h a (.dT cR) from PF ok e)
 refine⟨z,y,xs,r,o,es,ep,h1,h2,h3,h4,fun x hx=>?_,h5⟩
 have all:∀ {l:List (List Key×V)}{m:List (List Key×Addr×Value)},KT H l m→∀ x∈m,(tupleKind (gi P w)).is h x.1 x.2.1:=by
  intro l m q
  induction q with
  | nil=>intro x hx;exact nomatch hx
  | @cons p q ps qs hq t ih =>
   intro x hx
   rcases List.mem_cons.mp hx with e | hx
   ·subst e
    exact NB ok (by rw[←hq.1];exact hq.2.1)
   ·exact ih x hx
 exact all r x hx
end
def Hu (H:Hp) (a:Addr) (y:V) (r:Option V):Prop :=
 (∃ cR k,Rd H a (.dK cR)∧y=kV k∧r=qx cR k)∨∃ cR k b,Rd H a (.dT cR)∧y=.ref b∧H b=some (.tup (k.map kV))∧r=qx cR k
def OZ (H:Hp) (a:Addr) (y v:V) (H':Hp):Prop :=
 (∃ cR k,H a=some (.dK cR)∧y=kV k∧cR.length<sizeLine∧H'=upd H a (.dK (putK cR k v))) ∨
 ∃ cR k b,H a=some (.dT cR)∧y=.ref b∧H b=some (.tup (k.map kV))∧cR.length<sizeLine∧H'=upd H a (.dT (putK cR k v))
theorem Hu.k {H:Hp}{a:Addr}{cR:List (Key×V)}{k:Key} (e:H a=some (.dK cR)):Hu H a (kV k) (qx cR k):=.inl ⟨cR,k,.inl e,rfl,rfl⟩
theorem Hu.t {H:Hp}{a b:Addr}{cR:List (List Key×V)}{k:List Key} (e:H a=some (.dT cR)) (eb:H b=some (.tup (k.map kV))):Hu H a (.ref b) (qx cR k):=.inr ⟨cR,k,b,.inl e,rfl,eb,rfl⟩
theorem OZ.k {H:Hp}{a:Addr}{cR:List (Key×V)}{k:Key}{v:V} (e:H a=some (.dK cR)) (hl:cR.length<sizeLine):OZ H a (kV k) v (upd H a (.dK (putK cR k v))):=.inl ⟨cR,k,e,rfl,hl,rfl⟩
theorem OZ.t {H:Hp}{a b:Addr}{cR:List (List Key×V)}{k:List Key}{v:V} (e:H a=some (.dT cR)) (eb:H b=some (.tup (k.map kV))) (hl:cR.length<sizeLine) :
  OZ H a (.ref b) v (upd H a (.dT (putK cR k v))):=.inr ⟨cR,k,b,e,rfl,eb,hl,rfl⟩
section
variable {X:Cx}{pins:List (Addr×Obj)}{σ:St}{H:Hp}{s:Shared}{a:Addr}{y v:V}{u r:Value}{o:Option V}{A:Around}{E:Value→Shared→Prop}
theorem Inv.big (I:Inv X pins σ H s):sysModules<s.heap.objs.size:=by
 have h:mainGlobals<s.heap.objs.size:=(I.mod.glob.keeps I.bk).lt
 exact Nat.lt_trans (by decide) h
theorem VW {Q:Value→Shared→Prop} (hu:A.units+1<cLine) (I:Inv X pins σ H s) (g:Hu H a y o) (ry:RelV y u) (h:∀ s',Inv X pins σ H s'→Q (.bool o.isSome) s') :
  wpAny (model X.prog X.w) A (compareOp .In u (.ref a)) Q E s:=by
 rcases g with ⟨cR,k,e,ey,l⟩ | ⟨cR,k,b,e,ey,eb,l⟩
 ·subst ey
  obtain⟨z,hd,vs,rel,dd⟩:=Tf I.d4 e
  refine wpAny_in_of (NA ry) hd dd.mapOf ?_
  rw[←(rel.val k).A7,←l]
  exact h _ (I.tok _)
 ·subst ey
  cases (show u=Value.ref b from ry)
  obtain⟨z,hd,xs,rel,dd⟩:=Tg I.d4 e
  refine wpAny_in_heap (tupleKind_room_in1 hu) (NB I.d4 eb) hd dd ?_
  have q:=(rel.val k).A7
  rw[Option.isSome_map] at q
  rw[←q,←l]
  exact h _ (I.tok _)
theorem QZ {P:Program}{w:World}{H':Hp}{h':Heap}{cR:List (Key×V)}{vs:List (Key×Value)} (z:cR.length≤sizeLine) (hd:(a==sysModules)=false) (rel:KV cR vs) (dd:h'.DictOf (gi P w) a vs) :
  gj P w H' h' a (.dK cR):=⟨z,hd,vs,rel,dd⟩
end
section
variable {X:Cx}{pins:List (Addr×Obj)}{σ:St}{H:Hp}{s:Shared}{a:Addr}{cR:List (Key×V)}{k:Key}{u:Value}{A:Around}{E:Value→Shared→Prop}
end
def tDIn (ty td:TE):TE:=fun σ H Q=>ty σ H fun y H1=>td σ H1 fun x H2=>∃ a o,x=.ref a∧Hu H2 a y o∧Q (.bl o.isSome) H2
section
variable {X:Cx}{o i e value:Expr}{pos pos' Vr:Pos}{td ty tv:TE}
theorem Q0 (hu:X.A.units+1<cLine) (hi:PE X i ty) (ho:PE X o td):PC X .In i o (tDIn ty td):=by
 intro pins s σ H Q I h
 refine gZ (hi pins s σ H _ I h) fun iv s1 ⟨y,H1,I1,ry,q1⟩=>gZ (ho pins s1 σ H1 _ I1 q1) fun u s2 ⟨x,H2,I2,rx,a,ov,ex,g,q2⟩=>?_
 subst ex
 obtain rfl:u=Value.ref a:=rx
 exact VW hu I2 g ry fun s3 I3=>⟨.bl ov.isSome,H2,I3,rfl,q2⟩
end
section
variable {X:Cx}{pos:Pos}
end
abbrev VV:List (V×V)→List (Value×Value)→Prop:=Paired fun p q=>RelV p.1 q.1∧RelV p.2 q.2
structure M1 (X:Cx) (o:Expr) (m:Str) (apos:Pos) (e:Expr) (lX:Pos):Prop where
 base:attributeBase o m X.env (eval o X.env)=eval o X.env
 YQ:((backTo lX (starEach [e] X.env)).all (fun x => !x.1)&&(backToKw lX (keywordEach [] X.env)).all (fun x=>x.1.isSome)
  && decide (([e]:List Expr).length+([]:List Keyword).length+(if ([]:List Keyword).isEmpty then 0 else 1)<30))=true
 line:(apos.endLine==lX.line)=true
 trees:backTo lX (starEach [e] X.env)=[(false,eval e X.env)]
structure M2 (X:Cx) (o:Expr) (m:Str) (apos:Pos) (e f:Expr) (lX:Pos):Prop where
 base:attributeBase o m X.env (eval o X.env)=eval o X.env
 YQ:((backTo lX (starEach [e,f] X.env)).all (fun x => !x.1)&&(backToKw lX (keywordEach [] X.env)).all (fun x=>x.1.isSome)
  && decide (([e,f]:List Expr).length+([]:List Keyword).length+(if ([]:List Keyword).isEmpty then 0 else 1)<30))=true
 line:(apos.endLine==lX.line)=true
 trees:backTo lX (starEach [e,f] X.env)=[(false,eval e X.env),(false,eval f X.env)]
section
variable {X:Cx}{pins:List (Addr×Obj)}{σ:St}{H:Hp}{s:Shared}{a:Addr}{y d:V}{u r:Value}{o:Option V}{A:Around}{E:Value→Shared→Prop}
end
section
variable {X:Cx}{o e f:Expr}{apos lX:Pos}{td ty tx:TE}
end
section
variable {X:Cx}{pins:List (Addr×Obj)}{σ:St}{H:Hp}{s:Shared}{a:Addr}{cR:List (Key×V)}{A:Around}{E:Value→Shared→Prop}
end
section
variable {X:Cx}{pins:List (Addr×Obj)}{σ:St}{H:Hp}{s:Shared}{a:Addr}{y:V}{u:Value}{A:Around}{E:Value→Shared→Prop}
end
end L2
namespace PySem
open Sem (wp)
theorem O0:typeLookup (.type "list") "keys" = pure none:=by rw[typeLookup_type,builtinLookup_eq_fast];kernel_rfl
theorem Dl {prog:Program}{w:World}{A:Around}{E:Value→Shared→Prop}{s:Shared}{a:Addr}{o:Obj}{xs:Array Value}{k:Nat}{Q:Option Value→Shared→Prop}
  (hx:s.heap.get? a=some o) (hc:o.cls=.type "list") (Hv:o.data=.seq xs k) (hd:o.dict=none) (hA:A.handled=none)
  (h:∀ h' tk,(∀ b ob,s.heap.get? b=some ob→h'.get? b=some ob)→Q none { s with heap:=h',toks:=tk }) :
  wpAny (model prog w) A (getAttr? (.ref a) "keys") Q E s:=by
 obtain⟨c,UJ,dat,sl⟩:=o
 simp only at hc Hv hd
 subst hc Hv hd
 obtain⟨hp,g,d,tk,os⟩:=s
 have hT:∀ VX,(⟨hp,g,d,VX,os⟩:Shared).TypeIs (.ref a) "list" := fun _=>⟨_,hx,rfl⟩
 have f1:=sub_AttributeError
 have f3:=F.slot_list_getattribute.lookup
 have f4:=F.slot_list_getattribute.bind (.ref a)
 have f5:=am_list_getattr_none
 unfold getAttr? getAttrBy? getAttrBy
 repeat (any_goals (first | assumption | exact hT _ | ((with_reducible show wpAny _ _ (call (Value.builtin "list.__getattribute__") _ _) _ _ _);refine call_meets F.slot_list_getattribute (hT _) am_entry_list_getattribute (F.args_list_getattribute_2 _ _) (meets_getattribute_miss_list a xs k sl "keys" _ O0 (by decide +kernel)) ⟨hx,hA,fun h' VX e z4=>?_⟩) | wp_step))
 obtain⟨t',u',he⟩:=z4.there
 show wpAny _ _ (getattributeRaised _ _ _ _ _ _ _) _ _ _
 unfold getattributeRaised
 repeat (any_goals (first | assumption | wp_step))
 exact h h' VX z4.keeps
end PySem
namespace L2
open PySem PySem.Spec PyProof.Rows
theorem B5:entryFor table "dict.update.loop" = some Builtin.«dict.update.loop»:=entryFor_of_tree (by kernel_rfl)
theorem B6:plainId "dict.update.loop" = true:=by decide +kernel
section
variable {prog:Program}{w:World}{A:Around}{E:Value→Shared→Prop}
theorem L9 {d it l:Addr}{Q:Value→Shared→Prop} (hA:A.handled=none) (Ma:d≠it) (YR:d≠l) (Q5:it≠l) (items:List Value) (A8:List (Key×Value)) (hsz:A8.length≤900) :
  ∀ (m i:Nat) (s:Shared) (cR:List (Key×Value)),items.length=i+m→cR.length≤i→s.heap.IsListIter it l i→s.heap.IsList l items.toArray →
   (∀ (j:Nat) (x:Value) (p:Key×Value),items[j]? = some x→A8[j]? = some p→∃ (t:Addr) (ku:Value),x=Value.ref t∧t≠d∧t≠it∧s.heap.IsTuple t #[ku,p.2]∧(gi prog w).is p.1 ku=true) →
   items.length=A8.length→s.heap.DictOf (gi prog w) d cR →
   (∀ h' tk,(∀ b o,b≠d→b≠it→s.heap.get? b=some o→h'.get? b=some o)→h'.DictOf (gi prog w) d ((A8.drop i).foldl (fun a p=>stored a p.1 p.2) cR)→Q .none { s with heap:=h',toks:=tk }) →
   codeAny (model prog w) A (.builtin "dict.update.loop" ⟨[.ref d,.ref it,rawInt i,.none],[]⟩) (wants Q E) s:=by
 intro m
 induction m with
 | zero =>
  intro i s cR hn hk hit hl hp hlen hd hQ
  refine codeAny_builtin B5 ?_
  rw[Around.under_plainId B6]
  unfold Builtin.«dict.update.loop»
  refine wpAny_bind (wpAny_pyNext_list_end (by exact hA) hit hl (by simp;omega) fun h' hx=>?_)
  refine wpAny_bind (wpAny_pure ?_)
  refine wpAny_pure ?_
  have Et:A8.drop i=[]:=List.drop_eq_nil_of_le (by omega)
  rw[Et] at hQ
  exact hQ h' s.toks (fun b o _ hb e=>hx b o hb e) (hd.extBut hx Ma)
 | succ m ih =>
  intro i s cR hn hk hit hl hp hlen hd hQ
  have hi:i<items.length:=by omega
  have VY:i<A8.length:=by omega
  have ex:=List.getElem?_eq_getElem hi
  have ep:=List.getElem?_eq_getElem VY
  obtain⟨t,ku,et,htd,VZ,YS,Qu⟩:=hp i _ _ ex ep
  refine codeAny_builtin B5 ?_
  rw[Around.under_plainId B6]
  unfold Builtin.«dict.update.loop»
  refine wpAny_bind (wpAny_pyNext_list_item hit hl (x:=items[i]) (by simpa using ex) fun h1 V0 V1=>?_)
  rw[et]
  have Ti:h1.IsTuple t #[ku,A8[i].2]:=by
   obtain⟨o,ho,r⟩:=YS
   exact⟨o,(V1.2 t VZ).trans ho,r⟩
  have O1:h1.DictOf (gi prog w) d cR:=hd.sameBut V1 Ma
  have hT:(⟨h1,s.gens,s.drawn,s.toks,s.os⟩:Shared).TypeIs (.ref t) "tuple" := by
   obtain⟨o,ho,hc,r⟩:=Ti
   exact⟨_,ho,hc⟩
  refine wpAny_bind (wpAny_holding (wpAny_bind (wpAny_tryCatch ?_)))
  unfold Builtin.Dict.pairItems
  refine wpAny_bind (wpAny_typeOf hT ?_)
  rw[if_pos (by decide +kernel)]
  obtain⟨o,ho,hc,n,Hv⟩:=id Ti
  refine wpAny_bind (wpAny_seqItems (s:=⟨h1,s.gens,s.drawn,s.toks,s.os⟩) ho Hv ?_)
  refine wpAny_pure ?_
  have hz:cR.length≤sizeLine:=by
   have h9:(1000:Nat)≤sizeLine:=by decide
   omega
  show wpAny _ _ (holding [ku,A8[i].2] (dictSet d ku A8[i].2)) _ _ _
  refine wpAny_holding (wpAny_dictSet_pairs (s:=⟨h1,s.gens,s.drawn,s.toks,s.os⟩) Qu O1 (fun h2 hd2 Q6=>?_) hz)
  refine wpAny_pure ?_
  refine⟨Code.quiet_builtin _ (by decide +kernel),?_⟩
  have e1:rawInt ((i:Int)+1)=rawInt ((i+1:Nat):Int):=rfl
  have kp:∀ b o,b≠d→b≠it→s.heap.get? b=some o→h2.get? b=some o:=fun b o O2 PH e=>(Q6.2 b O2).trans ((V1.2 b PH).trans e)
  rw[e1]
  refine ih (i+1) ⟨h2,s.gens,s.drawn,s.toks+1,s.os⟩ (stored cR A8[i].1 A8[i].2) (by omega) ?_ ?_ ?_ ?_ hlen hd2 ?_
  ·unfold stored
   split
   ·rw[List.length_map];omega
   ·rw[List.length_append,List.length_singleton];omega
  ·exact V0.at fun o e=>(Q6.2 it (Ne.symm Ma)).trans e
  ·exact hl.at fun o e=>kp l o (Ne.symm YR) (Ne.symm Q5) e
  ·intro j x p hx yK
   obtain⟨t',YT,e',a1,a2,⟨o',CV,r'⟩,a4⟩:=hp j x p hx yK
   exact⟨t',YT,e',a1,a2,⟨o',kp t' o' a1 a2 CV,r'⟩,a4⟩
  ·intro h' tk k2 Et
   refine hQ h' tk (fun b o O2 PH e=>k2 b o O2 PH (kp b o O2 PH e)) ?_
   rw[List.drop_eq_getElem_cons VY]
   exact Et
end
end L2
namespace L2
open PySem PySem.Spec PyProof.Rows
theorem KV.fold {ks:List (Key×V)}{us:List (Key×Value)} (r:KV ks us):∀ {a:List (Key×V)}{b:List (Key×Value)},KV a b→KV (ks.foldl (fun a p=>putK a p.1 p.2) a) (us.foldl (fun a p=>stored a p.1 p.2) b):=by
 induction r with
 | nil=>intro a b h;exact h
 | @cons p q ps qs h t ih =>
  intro a b Q7
  refine ih ?_
  obtain⟨e,rv⟩:=h
  show KV (putK a p.1 p.2) (stored b q.1 q.2)
  rw[←e]
  exact KV.put Q7 p.1 rv
theorem NC (ks:List (Key×V)):∀ a:List (Key×V),(ks.foldl (fun a p=>putK a p.1 p.2) a).length≤a.length+ks.length:=by
 induction ks with
 | nil=>intro a;exact Nat.le_refl _
 | cons p ps ih =>
  intro a
  have h1:=ih (putK a p.1 p.2)
  have h2:=Ht a p.1 p.2
  rw[List.foldl_cons,List.length_cons]
  omega
section
variable {X:Cx}
def rDictP (K:PySem.W.Frag):List V→Hp→VK→Prop:=fun xs H Q=>∃ (l:Addr) (ys:List V) (A8:List (Key×V)),xs=[.ref l]∧bA K H l ys∧ys.length=A8.length∧A8.length≤900 ∧
 (∀ (j:Nat) (y:V) (p:Key×V),ys[j]? = some y→A8[j]? = some p→∃ t,y=.ref t∧H t=some (.tup [kV p.1,p.2]))∧∀ d,H d=none→Q (.ref d) (upd H d (.dK (A8.foldl (fun a p=>putK a p.1 p.2) [])))
theorem Jp (hc:X.calm=true):gH X (.type "dict") (rDictP X.K):=by
 intro pins s σ H xs us Q I r h
 obtain⟨l,ys,A8,rfl,hq,hlen,hsz,hp,q⟩:=h
 obtain⟨u,rfl,rx⟩:=vals1 r
 cases rx
 obtain⟨bF,rv,pl,hz⟩:=I.list hq
 have PJ:=rv.length
 have hA:X.A.handled=none:=I.ok.hd hc
 have YU:∃ us:List (Key×Value),KV A8 us∧∀ (j:Nat) (x:Value) (p:Key×Value),bF[j]? = some x→us[j]? = some p→∃ (t:Addr) (ku:Value),x=Value.ref t∧s.heap.IsTuple t #[ku,p.2]∧(gi X.prog X.w).is p.1 ku=true:=by
  clear hq pl hz q r
  have gen:∀ (A8:List (Key×V)) (ys:List V) (bF:List Value),Vals ys bF→ys.length=A8.length→(∀ (j:Nat) (y:V) (p:Key×V),ys[j]? = some y→A8[j]? = some p→∃ t,y=.ref t∧H t=some (.tup [kV p.1,p.2])) →
    ∃ us:List (Key×Value),KV A8 us∧∀ (j:Nat) (x:Value) (p:Key×Value),bF[j]? = some x→us[j]? = some p→∃ (t:Addr) (ku:Value),x=Value.ref t∧s.heap.IsTuple t #[ku,p.2]∧(gi X.prog X.w).is p.1 ku=true:=by
   intro A8
   induction A8 with
   | nil=>intro ys bF rv hl _;exact⟨[],.nil,fun j x p _ e=>by simp at e⟩
   | cons p ps ih =>
    intro ys bF rv hl hp
    cases rv with
    | nil=>simp at hl
    | @cons y u ys YV ru YW =>
     obtain⟨us,k1,k2⟩:=ih ys YV YW (by simpa using hl) fun j y' p' h1 h2=>hp (j+1) y' p' h1 h2
     obtain⟨t,e,ht⟩:=hp 0 y p rfl rfl
     subst e
     cases ru
     obtain⟨tis,tv,tp,_⟩:=I.tuple (df.of ht)
     cases tv with
     | cons rk YX =>
      cases YX with
      | cons V2 YY =>
       cases YY
       rename_i ku vu
       refine⟨(p.1,vu)::us,.cons ⟨rfl,V2⟩ k1,fun j x p' h1 h2=>?_⟩
       cases j with
       | zero =>
        simp at h1 h2
        subst h1 h2
        exact⟨t,ku,rfl,tp,NA rk⟩
       | succ j=>exact k2 j x p' h1 h2
  exact gen A8 ys bF rv hlen hp
 obtain⟨us,kv,Vz⟩:=YU
 have hul:=kv.length
 obtain⟨o,n,ho,Fe,YZ,Hv⟩:=pl
 refine callType_codes (Q₁:=fun obj s₁=>obj=.ref s.heap.objs.size∧s₁={ s with heap:=s.heap.push { cls:=.type "dict",data:=.dict #[] } }) PySem.F.kt_called_dict (PySem.F.kt_typeCall_dict_1 _) PySem.F.entry_dict_init (kt_code_dict_new _ ⟨rfl,rfl⟩) ?_
 rintro obj s₁ ⟨rfl,rfl⟩
 have Q8:(s.heap.push { cls:=.type "dict",data:=.dict #[] }).DictOf (gi X.prog X.w) s.heap.objs.size []:=Heap.DictOf.new s.heap
 have V3:∀ b o,s.heap.get? b=some o→(s.heap.push { cls:=.type "dict",data:=.dict #[] }).get? b=some o:=fun b o e=>Heap.get?_push_of_some _ e
 refine⟨Q8.typeIs,PySem.F.args_dict_init_2 _ _,?_⟩
 unfold Builtin.«dict.__init__»
 refine wpAny_bind ?_
 unfold Builtin.Dict.selfAndRest
 refine wpAny_bind (wpAny_notOrdered_dict Q8.typeIs ?_)
 show wpAny _ _ (pure (s.heap.objs.size,[Value.ref l])) _ _ _
 refine wpAny_pure ?_
 show wpAny _ _ (Builtin.Dict.updateFrom "dict.__init__" s.heap.objs.size (.ref l) [] .none) _ _ _
 unfold Builtin.Dict.updateFrom
 generalize hP:s.heap.push { cls:=.type "dict",data:=.dict #[] }=Xu at *
 have Y0:(⟨Xu,s.gens,s.drawn,s.toks,s.os⟩:Shared).TypeIs (.ref l) "list" := ⟨_,V3 _ _ ho,Fe⟩
 refine wpAny_bind (wpAny_typeOf Y0 ?_)
 rw[if_pos (by decide +kernel)]
 refine wpAny_bind (Dl (s:=⟨Xu,s.gens,s.drawn,s.toks,s.os⟩) (V3 _ _ ho) Fe Hv YZ hA fun h2 PK Xv=>?_)
 rw[if_pos (show (none:Option Value).isNone=true from rfl)]
 refine wpAny_bind (wpAny_rule ?_)
 have ND:∀ b o,s.heap.get? b=some o→h2.get? b=some o:=fun b o e=>Xv b o (V3 b o e)
 have RO:h2.IsList l bF.toArray:=⟨o,ND _ _ ho,Fe,n,Hv⟩
 refine wpAny_bind (wpAny_pyIter_list (s:=⟨h2,s.gens,s.drawn,PK,s.os⟩) RO ?_)
 refine wpAny_pure ?_
 refine⟨Code.quiet_builtin _ (by decide +kernel),?_⟩
 have hd2:h2.DictOf (gi X.prog X.w) s.heap.objs.size []:=by
  obtain⟨o',es,ep,CV,r'⟩:=Q8
  exact⟨o',es,ep,Xv _ _ CV,r'⟩
 have Y1:s.heap.objs.size<h2.objs.size:=by
  obtain⟨o',es,ep,CV,r'⟩:=hd2
  exact Heap.lt_size CV
 have Y2:l<h2.objs.size:=Heap.lt_size (ND _ _ ho)
 have Q9:∀ b o,s.heap.get? b=some o→b≠s.heap.objs.size:=fun b o e=>Nat.ne_of_lt (Heap.lt_size e)
 have V4:∀ b o,s.heap.get? b=some o→∀ x,(h2.push x).get? b=some o:=fun b o e x=>Heap.get?_push_of_some _ (ND b o e)
 refine L9 (d:=s.heap.objs.size) (it:=h2.objs.size) (l:=l) (by exact hA) (Nat.ne_of_lt Y1) (Ne.symm (Q9 _ _ ho)) (Ne.symm (Nat.ne_of_lt Y2)) bF us (by omega) bF.length 0 _ [] (by omega) (Nat.zero_le _) ⟨_,Heap.get?_push_size _ rfl,rfl,rfl⟩ ⟨o,V4 _ _ ho _,Fe,n,Hv⟩ ?_ (by omega) ?_ ?_
 ·intro j x p h1 RU
  obtain⟨t,ku,e,⟨ot,Ra,rt⟩,hk⟩:=Vz j x p h1 RU
  exact⟨t,ku,e,Q9 _ _ Ra,Nat.ne_of_lt (Heap.lt_size (ND _ _ Ra)),⟨ot,V4 _ _ Ra _,rt⟩,hk⟩
 ·obtain⟨o',es,ep,CV,r'⟩:=hd2
  exact⟨o',es,ep,Heap.get?_push_of_some _ CV,r'⟩
 ·intro h' tk k3 Et
  refine⟨rfl,.ref s.heap.objs.size,_,I.laid (a:=s.heap.objs.size) (o:=.dK (A8.foldl (fun a p=>putK a p.1 p.2) [])) (t':=tk) (fun b q E6=>?_) (Nat.le_refl _) (QZ ?_ (beq_eq_false_iff_ne.mpr (Ne.symm (Nat.ne_of_lt I.big))) (kv.fold .nil) Et),rfl,q _ (I.d4.fresh (Nat.le_refl _))⟩
  ·exact k3 b q (Q9 _ _ E6) (Nat.ne_of_lt (Heap.lt_size (ND _ _ E6))) (V4 _ _ E6 _)
  ·have h9:(1000:Nat)≤sizeLine:=by decide
   have h8:=NC A8 []
   rw[List.length_nil] at h8
   omega
end
end L2
namespace PySem
open Sem (wp)
section
variable {prog:Program}{w:World}{A:Around}{E:Value→Shared→Prop}{s:Shared}
theorem Jq {it t:Addr}{i:Nat}{items:Array Value}{x:Value}{Q:Value→Shared→Prop} (hI:s.heap.IsTupleIter it t i) (hT:s.heap.IsTuple t items) (hx:items[i]? = some x)
  (q:∀ h',h'.IsTupleIter it t (i+1)→Heap.SameBut it s.heap h'→Q x { s with heap:=h' }):wpAny (model prog w) A (Builtin.SmallTypes.nextOf (.ref it)) Q E s:=by
 obtain⟨oi,PL,Xw,Ma⟩:=id hI
 obtain⟨ot,Ra,_,nt,V5⟩:=hT
 unfold Builtin.SmallTypes.nextOf
 refine wpAny_bind (wpAny_callSpecial?_slot (name:=Str.ofString "__next__") hI.typeIs F.slot_tuple_iterator_next (wpAny_call_entry F.slot_tuple_iterator_next hI.typeIs F.entry_tuple_iterator_next ?_ (F.args_tuple_iterator_next_1 _)))
 refine wpAny_bind (m:=field (.ref it) 0) (wpAny_field PL Ma (x:=.ref t) rfl ?_)
 dsimp only
 rw[if_neg (show ¬ ((Value.ref t==Value.none)=true) by exact Bool.false_ne_true)]
 refine wpAny_bind (m:=field (.ref it) 1) (wpAny_field PL Ma (x:=.int i 0) rfl ?_)
 refine wpAny_bind (m:=seqItems? (.ref t)) (wpAny_seqItems Ra V5 ?_)
 simp only[Int.toNat_natCast,hx]
 refine wpAny_bind (wpAny_setField PL Ma (by simp) (wpAny_pure ⟨x,rfl,wpAny_pure (q _ ⟨_,Heap.get?_update_self _ PL (Obj.isFreed_of_fields (Obj.data_mapFields Ma _)),(Obj.cls_mapFields ..).trans Xw,?_⟩ (Heap.SameBut.update ..))⟩))
 rw[Obj.data_mapFields Ma]
 simp [rawInt]
theorem Mb {it t:Addr}{i:Nat}{items:Array Value}{Q:Value→Shared→Prop} (hh:A.handled=none) (hI:s.heap.IsTupleIter it t i) (hT:s.heap.IsTuple t items) (hx:items[i]? = none)
  (q:∀ h' e,Heap.ExtBut it s.heap h'→(∃ o,h'.get? e=some o∧o.cls=.type "StopIteration")→E (.ref e) { s with heap:=h' }):wpAny (model prog w) A (Builtin.SmallTypes.nextOf (.ref it)) Q E s:=by
 obtain⟨oi,PL,Xw,Ma⟩:=id hI
 obtain⟨ot,Ra,_,nt,V5⟩:=hT
 unfold Builtin.SmallTypes.nextOf
 refine wpAny_bind (wpAny_callSpecial?_slot (name:=Str.ofString "__next__") hI.typeIs F.slot_tuple_iterator_next (wpAny_call_entry F.slot_tuple_iterator_next hI.typeIs F.entry_tuple_iterator_next ?_ (F.args_tuple_iterator_next_1 _)))
 refine wpAny_bind (m:=field (.ref it) 0) (wpAny_field PL Ma (x:=.ref t) rfl ?_)
 dsimp only
 rw[if_neg (show ¬ ((Value.ref t==Value.none)=true) by exact Bool.false_ne_true)]
 refine wpAny_bind (m:=field (.ref it) 1) (wpAny_field PL Ma (x:=.int i 0) rfl ?_)
 refine wpAny_bind (m:=seqItems? (.ref t)) (wpAny_seqItems Ra V5 ?_)
 simp only[Int.toNat_natCast,hx]
 refine wpAny_bind (wpAny_rule (wpAny_bind (wpAny_setField PL Ma (by simp) (wpAny_bind (m:=newExc (.type "StopIteration") []) ?_))))
 simp only[newExc,newTuple]
 refine wpAny_bind (wpAny_newObj_type (wpAny_bind (m:=firstArgMember _ _) (wpAny_of_eq (a:=Value.none) (by first | rfl | (simp only[firstArgMember];rfl)) (wpAny_newObj_type ?_ (by size_fits)))) (by size_fits))
 simp only[raiseNew]
 refine wpAny_bind (wpAny_handled ?_)
 first | rw[show A.in1.handled=none by exact hh] | rw[hh]
 exact wpAny_bind (wpAny_pure (wpAny_throw (q _ _ (((Heap.SameBut.update ..).extBut.push _).push _) ⟨_,Heap.get?_push_size _ rfl,rfl⟩)))
theorem Draws.tup (hh:A.handled=none) (it t:Addr) (sN:t≠it) (items:Array Value):Draws prog w A it [it,t] items.size (fun i v=>items[i]? = some v) (fun i h=>h.IsTupleIter it t i∧h.IsTuple t items) where
 live:=fun _ _ st=>let ⟨o,ho,_⟩:=st.1;⟨o,ho⟩
 frame:=fun _ _ _ st hk=>⟨st.1.at fun o e=>hk it (by simp) o e,let ⟨o,ho,r⟩:=st.2;⟨o,hk t (by simp) o ho,r⟩⟩
 item:=fun i s Q E hi st hQ=>by
  refine Jq st.1 st.2 (x:=items[i]) (by simp [hi]) fun h' V6 Pu=>hQ _ h' s.toks (by simp [hi]) ⟨V6,?_⟩ Pu
  obtain⟨o,ho,r⟩:=st.2
  exact⟨o,(Pu.2 t sN).trans ho,r⟩
 done:=fun s Q E st hE=>Mb hh st.1 st.2 (by simp) hE
theorem Hw (l:Addr) (items:Array Value) (n:Nat) (UJ:Option Addr) (sl:Array (Option Value)) :
  Meets (Builtin.«enumerate.__new__» ⟨[.type "enumerate",.ref l],[]⟩) (fun _ R s=>s.heap.get? l=some { cls:=.type "tuple",dict:=UJ,data:=.seq items n,slots:=sl } ∧
   R (.ok (.ret (.ref (s.heap.push { cls:=.type "tuple_iterator",data:=.fields #[.ref l,.int 0 0] }).objs.size)))
    { s with heap:=(s.heap.push { cls:=.type "tuple_iterator",data:=.fields #[.ref l,.int 0 0] }).push { cls:=.type "enumerate",data:=.fields #[.none,.bool false,.ref s.heap.objs.size,rawInt 0,.none,.none] } }) :=
 .of_wp fun prog w A R s h=>by
  obtain⟨hp,g,d,tk,os⟩:=s;obtain⟨hl,h⟩:=h
  have V7:=sub_enumerate
  have hL:Heap.IsTuple (Shared.heap ⟨hp,g,d,tk,os⟩) l items:=⟨_,hl,rfl,n,rfl⟩
  wp_walk using wpAny_loadPart' hl
  refine wpAny_stack_any fun st=>wpAny_pure ?_
  split
  ·rename_i c _ _ _ _ _
   cases (c==Value.type "enumerate")<;>(wp_walk using wpAny_loadPart' hl,wpAny_pyIter_tuple hL;exact⟨_,rfl,h⟩)
  ·wp_walk using wpAny_loadPart' hl,wpAny_pyIter_tuple hL
   exact⟨_,rfl,h⟩
theorem Jr {l:Addr}{items:Array Value}{Q:Value→Shared→Prop} (hL:s.heap.IsTuple l items)
  (h:∀ h',IsEnum h' (s.heap.objs.size+1) s.heap.objs.size 0 .none→h'.IsTupleIter s.heap.objs.size l 0→h'.objs.size=s.heap.objs.size+2→(∀ b o,s.heap.get? b=some o→h'.get? b=some o)→Q (.ref (s.heap.objs.size+1)) { s with heap:=h' }) :
  wpAny (model prog w) A (call (.type "enumerate") [.ref l]) Q E s:=by
 obtain⟨⟨c,UJ,dt,sl⟩,hl,hc,n,hd⟩:=hL
 replace hc:c=.type "tuple" := hc
 replace hd:dt=.seq items n:=hd
 subst hc hd
 refine callType_new F.called_enumerate (by decide) (F.typeCall_enumerate_1 _) (F.newCall_enumerate_1 _) (fun obj=>F.args_object_init_2 obj _) F.entry_enumerate_new (Hw l items n UJ sl) ⟨hl,?_⟩
 generalize hI:({ cls:=.type "tuple_iterator",data:=.fields #[.ref l,.int 0 0] }:Obj)=oi
 have hz:(s.heap.push oi).objs.size=s.heap.objs.size+1:=Heap.size_push ..
 show _∧_
 rw[hz]
 have he:IsEnum ((s.heap.push oi).push { cls:=.type "enumerate",data:=.fields #[.none,.bool false,.ref s.heap.objs.size,rawInt 0,.none,.none] }) (s.heap.objs.size+1) s.heap.objs.size 0 .none:=by
  have g:=Heap.get?_push_size (s.heap.push oi) (o:={ cls:=.type "enumerate",data:=.fields #[.none,.bool false,.ref s.heap.objs.size,rawInt 0,.none,.none] }) rfl
  rw[hz] at g
  exact g
 subst hI
 exact⟨⟨_,he,rfl⟩,h _ he ⟨_,Heap.get?_push_of_some _ (Heap.get?_push_size _ rfl),rfl,rfl⟩ (by rw[Heap.size_push,hz]) fun b o x=>Heap.get?_push_of_some _ (Heap.get?_push_of_some _ x)⟩
end
end PySem
namespace L2
open PySem PySem.Spec PyProof.Rows
theorem Inv.Lm {X:Cx}{pins:List (Addr×Obj)}{σ:St}{H:Hp}{s:Shared}{h':Heap}{t':Nat}{ch:List Addr} (I:Inv X pins σ H s) (GW:∀ b∈ch,Ab X pins H b) (k:∀ b o,b∉ch→s.heap.get? b=some o→h'.get? b=some o):Inv X pins σ H { s with heap:=h',toks:=t' }:=by
 have Pk:∀ b u,H b=some u→b∉ch:=fun b u e z=>by rw[(GW b z).1] at e;cases e
 refine I.step (g':=s.gens) (d':=s.drawn) (ch:=ch) (fun b hb=>?_) (fun b o _ _ hc e _=>k b o hc e) (fun b o _ _ hc e _=>⟨o.slots,k b o hc e⟩) (fun _ _ _ _ n=>n) (fun b o hc e=>⟨o,k b o hc e⟩) (fun _ _ e=>e) (fun _ _ _ e=>e) (fun b ps e=>⟨#[],by rw[e];simp⟩) (fun m hm=>?_) (fun b u e=>?_) I.bare
 ·obtain⟨f0,f1,f2,f3,f4,f5⟩:=GW b hb
  exact⟨f3,f1,f4,f5⟩
 ·obtain⟨o,es,ep,ho,r⟩:=hm
  exact⟨o,es,ep,k _ o (fun z=>(GW _ z).2.1 rfl) ho,r⟩
 ·refine (I.d4 b u e).rj (fun c v hc q=>k c v ?_ q) (fun _ q=>q) fun _ _ q=>q
  rcases hc with z | z
  ·rw[z];exact Pk b u e
  ·exact Pk c _ z
theorem Inv.Dm {X:Cx}{pins:List (Addr×Obj)}{σ:St}{H:Hp}{s:Shared}{h':Heap}{t':Nat}{ch:List Addr}{T:Addr}{ob:HO} (I:Inv X pins σ H s) (GW:∀ b∈ch,Ab X pins H b) (k:∀ b o,b∉ch→s.heap.get? b=some o→h'.get? b=some o)
  (hT:s.heap.objs.size≤T) (new:gj X.prog X.w (upd H T ob) h' T ob):Inv X pins σ (upd H T ob) { s with heap:=h',toks:=t' }:=by
 have hn:H T=none:=I.d4.fresh hT
 have Pk:∀ b u,H b=some u→b∉ch:=fun b u e z=>by rw[(GW b z).1] at e;cases e
 have up:∀ b u,H b=some u→(upd H T ob) b=some u:=fun b u e=>by rw[aF (aG e hn)];exact e
 refine I.step (g':=s.gens) (d':=s.drawn) (ch:=ch) (fun b hb=>?_) (fun b o _ _ hc e _=>k b o hc e) (fun b o _ _ hc e _=>⟨o.slots,k b o hc e⟩) (fun b o _ e n=>?_) (fun b o hc e=>⟨o,k b o hc e⟩) (fun b _ e=>up b _ e) (fun b _ _ e=>up b _ e) (fun b ps e=>⟨#[],by rw[up b _ e];simp⟩) (fun m hm=>?_) (fun b u e=>?_) I.bare
 ·obtain⟨f0,f1,f2,f3,f4,f5⟩:=GW b hb
  exact⟨f3,f1,f4,f5⟩
 ·rw[aF (Nat.ne_of_lt (Nat.lt_of_lt_of_le (Heap.lt_size e) hT))];exact n
 ·obtain⟨o,es,ep,ho,r⟩:=hm
  exact⟨o,es,ep,k _ o (fun z=>(GW _ z).2.1 rfl) ho,r⟩
 ·by_cases hb:b=T
  ·subst hb;rw[ag] at e;cases e;exact new
  ·rw[aF hb] at e
   refine (I.d4 b u e).rj (fun c v hc q=>k c v ?_ q) (fun c q=>up c _ q) fun c _ q=>up c _ q
   rcases hc with z | z
   ·rw[z];exact Pk b u e
   ·exact Pk c _ z
def FU (K:PySem.W.Frag) (a:Addr):It :=
 ⟨fun i H=>∃ xs x,df K H a xs∧xs[i]? = some x,fun i H v H'=>∃ T x,H T=none∧v=.ref T∧(∀ xs,df K H a xs→xs[i]? = some x)∧H'=upd H T (.tup [.int i,x]),fun i H=>∃ xs,df K H a xs∧xs.length=i⟩
theorem Js {P:Program}{w:World}{K:PySem.W.Frag}{elts:List Expr}{kk:Nat}{tp:Pos} (e it a:Addr) (UK:e≠it):Turn P w K (.Tuple elts kk tp) (FU K a) [e,it] e (fun i h=>(∃ old,IsEnum h e it i old)∧h.IsTupleIter it a i) where
 mem:=by simp
 obj:=fun i h st b hb=>by
  obtain⟨⟨old,he⟩,o,ho,hc,hd⟩:=st
  rcases List.mem_cons.mp hb with q | q
  ·subst q
   exact⟨_,he,fun v z=>by have z':Data.fields _=Data.cell v:=z;cases z'⟩
  ·rw[List.mem_singleton.mp q]
   exact⟨o,ho,fun v z=>by rw[hd] at z;cases z⟩
 keep:=fun i h h' st k=>⟨st.1.imp fun old x=>k e (by simp) _ x,st.2.at fun o x=>k it (by simp) o x⟩
 item:=by
  intro X hP hw hK hc i pins s σ H E I hf st hg
  subst hP hw hK
  obtain⟨xs,x,hq,hx⟩:=hg
  obtain⟨bF,rv,p,hz⟩:=I.tuple hq
  obtain⟨u,hu,ru⟩:=rv.get hx
  have hA:X.A.handled=none:=I.ok.hd hc
  obtain⟨⟨old,he⟩,hI⟩:=id st
  have V8:a≠it:=fun z=>by
   obtain⟨o1,g1,c1,_⟩:=p
   obtain⟨o2,g2,c2,_⟩:=hI
   rw[z,g2] at g1
   cases g1
   rw[c2] at c1
   exact absurd c1 (by decide)
  have V9:e≠a:=fun z=>by
   obtain⟨o1,g1,c1,_⟩:=p
   have g2:s.heap.get? e=_:=he
   rw[←z,g2] at g1
   cases g1
   exact absurd (show Value.type "enumerate" = Value.type "tuple" from c1) (by decide)
  have W:=WalksT.enumerateD (prog:=X.prog) (w:=X.w) (A:=X.A) (Draws.tup (by exact hA) it a V8 bF.toArray) e UK (by simp [UK,V9]) (by simp)
  have hi:i<bF.toArray.size:=by
   have:=(List.getElem?_eq_some_iff.mp hu).1
   simpa using this
  refine W.item i s _ _ hi ⟨⟨old,he⟩,hI,p⟩ fun T vals h' tk hv hT Y3 Tj k1=>?_
  obtain⟨t',x',z4,rfl⟩:=hv
  have ex:x'=u:=by
   have h2:bF.toArray[i]? = some u:=by simpa using hu
   rw[h2] at z4
   exact (Option.some.inj z4).symm
  subst ex
  refine⟨_,rfl,W.go elts kk tp i T _ _ _ Tj fun h2 Tn k2=>?_⟩
  have Xx:=W.apart i T _ Tj
  have new:gj X.prog X.w (upd H T (.tup [.int i,x])) h2 T (.tup [.int i,x]):=by
   obtain⟨ot,g1,r1⟩:=Y3
   exact⟨by show 2≤sizeLine;decide,[.int i t',x'],.cons ⟨t',rfl⟩ (.cons ru .nil),ot,k2 T ot Xx g1,r1⟩
  refine⟨.ref T,_,I.Dm (ch:=[e,it]) (t':=tk) hf (fun b o hb g=>k2 b o hb (k1 b o hb g)) hT new,rfl,⟨T,x,I.d4.fresh hT,rfl,fun ys hy=>by rw[I.E4 hy hq];exact hx,rfl⟩,⟨Tn.1,Tn.2.1⟩,fun b hb=>?_⟩
  have Y4:b≠T:=fun z=>Xx (by rw[←z];exact hb)
  rw[aF Y4]
  exact (hf b hb).1
 done:=by
  intro X hP hw hK hc i pins s σ H E I hf st hg
  subst hP hw hK
  obtain⟨xs,hq,hx⟩:=hg
  obtain⟨bF,rv,p,hz⟩:=I.tuple hq
  have hA:X.A.handled=none:=I.ok.hd hc
  obtain⟨⟨old,he⟩,hI⟩:=id st
  have V8:a≠it:=fun z=>by
   obtain⟨o1,g1,c1,_⟩:=p
   obtain⟨o2,g2,c2,_⟩:=hI
   rw[z,g2] at g1
   cases g1
   rw[c2] at c1
   exact absurd c1 (by decide)
  have V9:e≠a:=fun z=>by
   obtain⟨o1,g1,c1,_⟩:=p
   have g2:s.heap.get? e=_:=he
   rw[←z,g2] at g1
   cases g1
   exact absurd (show Value.type "enumerate" = Value.type "tuple" from c1) (by decide)
  have W:=WalksT.enumerateD (prog:=X.prog) (w:=X.w) (A:=X.A) (Draws.tup (by exact hA) it a V8 bF.toArray) e UK (by simp [UK,V9]) (by simp)
  have hl:=rv.length
  have en:bF.toArray.size=i:=by simp;omega
  refine W.done s _ _ ?_ fun h' tk k1=>⟨rfl,I.Lm (ch:=[e,it]) (t':=tk) hf fun b o hb g=>k1 b o hb g⟩
  rw[en]
  exact⟨⟨old,he⟩,hI,p⟩
 self:=fun _ _ _ _ _ st h=>by
  obtain⟨⟨old,he⟩,_⟩:=st
  exact wpAny_pyIter_enum he h
section
variable {X:Cx}
def iEnumT (K:PySem.W.Frag) (ta:TA):TI:=fun σ H R=>ta σ H fun vs H1=>∃ a,vs=[.ref a]∧(∃ xs,df K H1 a xs)∧R (FU K a) H1
theorem Hx {a:Expr}{ta:TA}{p pos:Pos}{elts:List Expr}{kk:Nat}{tp:Pos} (hg:Gl X "enumerate") (hm:X.mg "enumerate" = none) (ha:PA X [a] ta) (hs:starEach [a] X.env=[(false,eval a X.env)]:=by rfl) :
  PI X (.Tuple elts kk tp) (.Call (.Name "enumerate" p) [a] [] pos) (iEnumT X.K ta):=by
 intro pins s σ H R I h
 refine Call_ (y1 I hg hm boot_enumerate (PyProof.Rows.callWith_type1 (gZ (ha pos pins s σ H _ I h) fun us s1 ⟨vs,H1,I1,r1,q1⟩=>?_) hs rfl))
 obtain⟨l,e,⟨xs,hq⟩,q⟩:=q1
 subst e
 cases r1 with
 | cons r rr =>
  cases rr
  cases r
  obtain⟨bF,rv,p,hz⟩:=I1.tuple hq
  refine Jr p fun h' he hi hsz kp=>wpAny_pyIter_enum he ⟨s1.heap.objs.size+1,[s1.heap.objs.size+1,s1.heap.objs.size],_,_,H1,rfl,I1.kept (t':=s1.toks) kp,Js _ _ l (Nat.ne_of_gt (Nat.lt_succ_self _)),⟨⟨_,he⟩,hi⟩,fun b hb=>?_,q⟩
  rcases List.mem_cons.mp hb with z | z
  ·subst z;exact I1.IQ (Nat.le_succ _) (I1.d4.fresh (Nat.le_succ _))
  ·rw[List.mem_singleton.mp z];exact I1.IQ (Nat.le_refl _) (I1.d4.fresh (Nat.le_refl _))
theorem Mc {K:PySem.W.Frag}{a:Addr}{xs:List V}{g:TG}{tb:TS}{D:Ends}{σ:St}{H:Hp} (Pv:Nat→St→Hp→Prop) (h0:Pv 0 σ H) (hl:∀ i σ H,i≤xs.length→Pv i σ H→df K H a xs)
  (hs:∀ i x σ H T,xs[i]? = some x→Pv i σ H→H T=none→g (.ref T) σ (upd H T (.tup [.int i,x])) fun σ2 H2=>tb { D with nx:=Pv (i+1),ct:=Pv (i+1),bk:=D.nx } σ2 H2) (hd:∀ σ H,Pv xs.length σ H→D.nx σ H) :
  ∃ W:Nat→Nat→St→Hp→Prop,(∃ m,W 0 m σ H)∧∀ i m σ H,W i m σ H →
   ((FU K a).stop i H∧D.nx σ H)∨((FU K a).go i H∧∃ N:St→Hp→Prop,(∀ σ' H',N σ' H'→∃ m',m'<m∧W (i+1) m' σ' H')∧∀ x H',(FU K a).IH i H x H'→g x σ H' fun σ2 H2=>tb { D with nx:=N,ct:=N,bk:=D.nx } σ2 H2):=by
 refine⟨fun i m σ H=>m=xs.length-i∧i≤xs.length∧Pv i σ H,⟨xs.length,by simp,Nat.zero_le _,h0⟩,?_⟩
 rintro i m σ H ⟨rfl,hi,p⟩
 have q:=hl i σ H hi p
 by_cases qt:i<xs.length
 ·refine .inr ⟨⟨xs,xs[i],q,by simp [qt]⟩,Pv (i+1),fun σ' H' p'=>⟨xs.length-(i+1),by omega,rfl,qt,p'⟩,fun v H' y=>?_⟩
  obtain⟨T,x,hT,rfl,y,rfl⟩:=y
  exact hs i x σ H T (y xs q) p hT
 ·have e:i=xs.length:=by omega
  subst e
  exact .inl ⟨⟨xs,q,rfl⟩,hd σ H p⟩
end
end L2
namespace SH
open PySem L2
def uI:List Int→Int→List Nd→List Int
 | W,_,[]=>W
 | W,k,n::r=>uI (W.take n.2.toNat++[k]) (k+1) r
def way (ns:List Nd):List Int:=uI [] 0 ns
theorem Am:∀ (a b:List Nd) (W:List Int) (k:Int),uI W k (a++b)=uI (uI W k a) (k+a.length) b
 | [],b,W,k=>by show uI W k b=uI W (k+((0:Nat):Int)) b;rw[show k+((0:Nat):Int)=k by omega]
 | n::a,b,W,k=>by
  show uI _ (k+1) (a++b)=_
  rw[Am a b]
  show uI (uI _ (k+1) a) (k+1+a.length) b=uI (uI _ (k+1) a) (k+(n::a).length) b
  rw[List.length_cons,show k+1+(a.length:Int)=k+((a.length+1:Nat):Int) by omega]
theorem Hy (ns:List Nd) (n:Nd):way (ns++[n])=(way ns).take n.2.toNat++[(ns.length:Int)]:=by
 unfold way
 rw[Am]
 show (uI [] 0 ns).take n.2.toNat++[0+(ns.length:Int)]=_
 rw[Int.zero_add]
theorem p3 {ns:List Nd}{i:Nat}{n:Nd} (h:ns[i]? = some n):way (ns.take (i+1))=(way (ns.take i)).take n.2.toNat++[(i:Int)]:=by
 have hi:=(List.getElem?_eq_some_iff.mp h).1
 rw[List.take_add_one,h]
 show way (ns.take i++[n])=_
 rw[Hy,List.length_take,Nat.min_eq_left (by omega)]
theorem FV {ns:List Nd}:∀ i,i≤ns.length→∀ j∈way (ns.take i),0≤j∧j<(i:Int):=by
 intro i
 induction i with
 | zero=>intro _ j hj;rw[List.take_zero] at hj;exact nomatch hj
 | succ i ih =>
  intro hi j hj
  rw[p3 (List.getElem?_eq_getElem (by omega:i<ns.length))] at hj
  rcases List.mem_append.mp hj with h | h
  ·have:=ih (by omega) j (List.mem_of_mem_take h);omega
  ·rw[List.mem_singleton.mp h];omega
theorem O3 {ns:List Nd}:∀ i,i≤ns.length→(way (ns.take i)).length≤i:=by
 intro i
 induction i with
 | zero=>intro _;rw[List.take_zero];exact Nat.le_refl _
 | succ i ih =>
  intro hi
  rw[p3 (List.getElem?_eq_getElem (by omega:i<ns.length)),List.length_append,List.length_take,List.length_singleton]
  have:=ih (by omega)
  omega
def Es (ns:List Nd) (k:Nat):List Int:=(way (ns.take k)).take ((ns.getD k ("",0)).2.toNat)
theorem O4 {ns:List Nd}{k:Nat} (hk:k≤ns.length):∀ j∈Es ns k,0≤j∧j<(k:Int):=fun j hj=>FV k hk j (List.mem_of_mem_take hj)
theorem za {ns:List Nd}{k:Nat}{n:Nd} (h:ns[k]? = some n):Es ns k=(way (ns.take k)).take n.2.toNat:=by
 unfold Es
 rw[List.getD_eq_getElem?_getD,h]
 rfl
def kept (ps W:List Int):List Int:=W.filter fun j=>decide (j∈ps)
theorem wZ (ps a b:List Int):kept ps (a++b)=kept ps a++kept ps b:=List.filter_append ..
theorem Hz (ps:List Int) (k:Int):kept ps [k]=if k∈ps then [k] else []:=by
 unfold kept
 by_cases h:k∈ps<;>simp [h]
theorem B7 {ps a b:List Int} (h:a <+: b):kept ps a <+: kept ps b:=by
 obtain⟨c,rfl⟩:=h
 exact⟨kept ps c,(wZ ps a c).symm⟩
def qN (ps W:List Int):List Int:=(List.range (W.length+1)).map fun j=>((kept ps (W.take j)).length:Int)
theorem Md (ps W:List Int) (d:Nat):(qN ps W).take (d+1)=qN ps (W.take d):=by
 unfold qN
 rw[←List.map_take,List.take_range,List.length_take,show min (d+1) (W.length+1)=min d W.length+1 by omega]
 apply List.map_congr_left
 intro j hj
 have:=List.mem_range.mp hj
 rw[List.take_take,Nat.min_eq_left (by omega)]
theorem Me (ps W:List Int) (k:Int):qN ps (W++[k])=qN ps W++[((kept ps W).length:Int)+if k∈ps then 1 else 0]:=by
 unfold qN
 rw[List.length_append,List.length_singleton,List.range_succ,List.map_append]
 congr 1
 ·apply List.map_congr_left
  intro j hj
  have:=List.mem_range.mp hj
  rw[List.take_append_of_le_length (by omega)]
 ·rw[List.map_cons,List.map_nil,List.take_of_length_le (by rw[List.length_append,List.length_singleton];omega),wZ,Hz]
  by_cases h:k∈ps<;>simp [h]
theorem HI (ps W:List Int):(qN ps W).length=W.length+1:=by unfold qN;rw[List.length_map,List.length_range]
theorem Mf (ps W:List Int):(qN ps W)[W.length]? = some ((kept ps W).length:Int):=by
 unfold qN
 rw[List.getElem?_map,List.getElem?_range (by omega)]
 show some (((kept ps (W.take W.length)).length:Nat):Int)=_
 rw[List.take_length]
theorem O5 (ps W:List Int):qr ((qN ps W).map V.int) (-1)=some (.int ((kept ps W).length:Int)):=by
 have e:qN ps W=(qN ps W).take W.length++[((kept ps W).length:Int)]:=by
  have h:=List.take_add_one (l:=qN ps W) (i:=W.length)
  rw[Mf,List.take_of_length_le (by rw[HI];omega)] at h
  exact h
 rw[e,List.map_append]
 exact Hd _ _
theorem aq.none {H H':Hp} (s:aq H H') {b:Addr} (h:H' b=none):H b=none:=by
 cases e:H b with
 | none=>rfl
 | some o=>rw[s _ _ e] at h;cases h
def below (ps:List Int) (i:Nat):List Int:=ps.filter fun p=>decide (p<(i:Int))
theorem rz {i:Nat}:∀ {lo m:Int}{ps:List Int},placesOk lo m ps→(i:Int)≤lo→below ps i=[]:=fun {lo m ps} h hi=>by
 unfold below
 rw[List.filter_eq_nil_iff]
 intro p hp
 have:=(ck h p hp).1
 simp;omega
theorem va {i:Nat}:∀ {lo m:Int}{ps:List Int},placesOk lo m ps→below ps (i+1)=below ps i++(if (i:Int)∈ps then [(i:Int)] else [])
 | _,_,[],_=>rfl
 | lo,m,p::r,h=>by
  obtain⟨h1,h2,h3⟩:=h
  have ih:=va (i:=i) h3
  have e1:∀ k:Nat,below (p::r) k=if p<(k:Int) then p::below r k else below r k:=fun k=>by
   unfold below
   rw[List.filter_cons]
   by_cases h:p<(k:Int)<;>simp [h]
  rw[e1,e1]
  by_cases qt:p<(i:Int)
  ·rw[if_pos qt,if_pos (by omega),ih]
   have:((i:Int)∈p::r)↔(i:Int)∈r:=by
    rw[List.mem_cons]
    exact⟨fun z=>z.elim (fun z=>by omega) id,.inr⟩
   by_cases hm:(i:Int)∈r
   ·rw[if_pos hm,if_pos (this.mpr hm)];rfl
   ·rw[if_neg hm,if_neg (fun z=>hm (this.mp z))];rfl
  ·rw[if_neg qt,rz h3 (by omega)]
   by_cases he:p=(i:Int)
   ·rw[if_pos (by omega),rz h3 (by omega),if_pos (by rw[he];exact List.mem_cons_self),he];rfl
   ·rw[if_neg (by omega),rz h3 (by omega),if_neg ?_]
    ·rfl
    ·intro z
     rcases List.mem_cons.mp z with z | z
     ·exact he z.symm
     ·have:=(ck h3 _ z).1;omega
theorem Fj {n:Nat}{lo:Int}{ps:List Int} (h:placesOk lo n ps):below ps n=ps:=by
 unfold below
 rw[List.filter_eq_self]
 intro p hp
 have:=(ck h p hp).2
 simp;omega
theorem below_at:∀ {lo m:Int}{ps:List Int}{k:Nat}{p:Int},placesOk lo m ps→0≤lo→ps[k]? = some p→below ps p.toNat=ps.take k
 | _,_,[],k,p,_,_,hk=>by simp at hk
 | lo,m,q::r,0,p,h,h0,hk=>by
  obtain⟨h1,h2,h3⟩:=h
  simp at hk
  subst hk
  rw[List.take_zero]
  unfold below
  rw[List.filter_eq_nil_iff]
  intro x hx
  rcases List.mem_cons.mp hx with z | z
  ·subst z;simp;omega
  ·have:=(ck h3 _ z).1;simp;omega
 | lo,m,q::r,k+1,p,h,h0,hk=>by
  obtain⟨h1,h2,h3⟩:=h
  have Xy:r[k]? = some p:=hk
  have:=(ck h3 _ (List.mem_of_getElem? Xy)).1
  have ih:=below_at h3 (by omega) Xy
  unfold below at ih ⊢
  rw[List.filter_cons,if_pos (by simp;omega),List.take_succ_cons,ih]
theorem Mg {lo m:Int}{ps:List Int}{i:Nat} (h:placesOk lo m ps) (h0:0≤lo) (hi:(i:Int)∈ps):ps[(below ps i).length]? = some (i:Int):=by
 obtain⟨k,hk⟩:=List.getElem?_of_mem hi
 have e:=below_at h h0 hk
 rw[Int.toNat_natCast] at e
 have:=(List.getElem?_eq_some_iff.mp hk).1
 rw[e,List.length_take,Nat.min_eq_left (by omega)]
 exact hk
def me (ns:List Nd) (ps:List Int) (p:Int):Nd:=((ns.getD p.toNat ("",0)).1,((kept ps (Es ns p.toNat)).length:Int))
def eU (ns:List Nd) (ps:List Int):List Nd:=ps.map (me ns ps)
theorem An:∀ {d:Int}{ns:List Nd},d≤12→gn d ns≤12
 | _,[],h=>h
 | _,n::r,_=>An (ns:=r) (by show min (n.2+1) 12≤12;omega)
theorem CP {ns:List Nd}{i:Nat}{n:Nd} (hd:dG 0 ns) (h:ns[i]? = some n):d6 n.1=true∧0≤n.2∧n.2≤12:=by
 have e:ns=ns.take i++(n::ns.drop (i+1)):=by
  have q:=List.take_append_drop (i+1) ns
  rw[List.take_add_one,h,List.append_assoc] at q
  exact q.symm
 rw[e] at hd
 obtain⟨_,h1,h2,h3,_⟩:=gb.mp hd
 have:=An (d:=0) (ns:=ns.take i) (by omega)
 exact⟨h1,h2,by omega⟩
theorem prefix_eq {a b:List Int} (h:a <+: b):b.take a.length=a:=by
 obtain⟨c,rfl⟩:=h
 simp
theorem HJ {ns:List Nd}{ps:List Int} (hd:dG 0 ns) (hp:placesOk 0 ns.length ps):∀ i,i≤ns.length →
  kept ps (way (ns.take i)) <+: (way ((below ps i).map (me ns ps))).map (fun j=>ps.getD j.toNat 0)∧dG 0 ((below ps i).map (me ns ps))∧gn 0 ((below ps i).map (me ns ps))=min ((way ((below ps i).map (me ns ps))).length:Int) 12:=by
 intro i
 induction i with
 | zero =>
  intro _
  rw[rz (i:=0) hp (by omega),List.take_zero]
  exact⟨⟨[],rfl⟩,trivial,rfl⟩
 | succ i ih =>
  intro hi
  obtain⟨h1,h2,h3⟩:=ih (by omega)
  have hn:ns[i]? = some ns[i]:=List.getElem?_eq_getElem (by omega)
  obtain⟨hm,d0,Wa⟩:=CP hd hn
  rw[p3 hn,wZ,Hz,va hp]
  have Hg:kept ps ((way (ns.take i)).take ns[i].2.toNat) <+: kept ps (way (ns.take i)):=B7 (List.take_prefix ..)
  generalize hR:(below ps i).map (me ns ps)=R at h1 h2 h3 ⊢
  by_cases hk:(i:Int)∈ps
  ·rw[if_pos hk,List.map_append,hR]
   rw[List.map_cons,List.map_nil]
   have eN:me ns ps (i:Int)=(ns[i].1,((kept ps ((way (ns.take i)).take ns[i].2.toNat)).length:Int)):=by
    unfold me
    rw[Int.toNat_natCast,za hn,List.getD_eq_getElem?_getD,hn]
    rfl
   rw[Hy,eN,Int.toNat_natCast]
   generalize hA:kept ps ((way (ns.take i)).take ns[i].2.toNat)=A at Hg ⊢
   have lA:A.length≤ns[i].2.toNat:=by
    rw[←hA]
    refine Nat.le_trans (List.length_filter_le ..) ?_
    rw[List.length_take];omega
   have pV:A <+: (way R).map (fun j=>ps.getD j.toNat 0):=Hg.trans h1
   have lV:A.length≤(way R).length:=by have:=pV.length_le;rw[List.length_map] at this;exact this
   have hl:R.length=(below ps i).length:=by rw[←hR,List.length_map]
   have hg:ps.getD R.length 0=(i:Int):=by rw[hl,List.getD_eq_getElem?_getD,Mg hp (by omega) hk];rfl
   refine⟨?_,?_,?_⟩
   ·rw[List.map_append,List.map_take,prefix_eq pV,List.map_cons,List.map_nil,Int.toNat_natCast,hg]
    exact⟨[],by simp⟩
   ·exact gb.mpr ⟨h2,hm,by omega,by rw[h3];show (A.length:Int)≤_;omega,trivial⟩
   ·rw[ja]
    show min ((A.length:Int)+1) 12=_
    rw[List.length_append,List.length_take,List.length_singleton]
    omega
  ·rw[if_neg hk,List.append_nil,List.append_nil,hR]
   exact⟨Hg.trans h1,h2,h3⟩
theorem CQ {ns:List Nd}{ps:List Int} (hd:dG 0 ns) (hp:placesOk 0 ns.length ps):dG 0 (eU ns ps):=by
 have h:=(HJ hd hp ns.length (Nat.le_refl _)).2.1
 rw[Fj hp] at h
 exact h
theorem HK {ns:List Nd}{ps:List Int} (hd:dG 0 ns) (hp:placesOk 0 ns.length ps) {k:Nat}{p:Int} (hk:ps[k]? = some p):(Es (eU ns ps) k).map (fun j=>ps.getD j.toNat 0)=kept ps (Es ns p.toNat):=by
 obtain⟨p0,p1⟩:=ck hp p (List.mem_of_getElem? hk)
 have hi:p.toNat<ns.length:=by omega
 obtain⟨h1,_,_⟩:=HJ hd hp p.toNat (by omega)
 rw[below_at hp (by omega) hk] at h1
 have e1:(eU ns ps)[k]? = some (me ns ps p):=by unfold eU;rw[List.getElem?_map,hk];rfl
 rw[za e1]
 have e2:(eU ns ps).take k=(ps.take k).map (me ns ps):=by unfold eU;rw[List.map_take]
 rw[e2,List.map_take]
 show List.take (((kept ps (Es ns p.toNat)).length:Int)).toNat _=_
 rw[Int.toNat_natCast]
 refine prefix_eq (List.IsPrefix.trans (B7 ?_) h1)
 unfold Es
 exact List.take_prefix ..
theorem Y5 {n:Nat} (h:n+64<cLine):n+1<cLine:=by omega
theorem NF (ps:List Int):∀ (acc:List (Key×V)) (j:Int),(qx ((ps.map fun q=>((Sum.inl q:Key),V.bl true)).foldl (fun a p=>putK a p.1 p.2) acc) (Sum.inl j)).isSome=(decide (j∈ps)||(qx acc (Sum.inl j)).isSome):=by
 induction ps with
 | nil=>intro acc j;simp
 | cons p r ih =>
  intro acc j
  rw[List.map_cons,List.foldl_cons,ih,Nz]
  by_cases h:j=p
  ·subst h;simp
  ·have:¬ ((Sum.inl j:Key)=Sum.inl p):=fun z=>h (Sum.inl.inj z)
   simp [this,h]
end SH
namespace L2
open PySem PySem.Spec PyProof.Rows
section
variable {X:Cx}
def rRange1:List V→Hp→VK→Prop:=fun xs H Q=>∃ n:Int,xs=[.int n]∧∀ r,H r=none→Q (.ref r) (upd H r (.OF 0 n))
def rRange2:List V→Hp→VK→Prop:=fun xs H Q=>∃ lo hi:Int,xs=[.int lo,.int hi]∧∀ r,H r=none→Q (.ref r) (upd H r (.OF lo hi))
theorem FW:gH X (.type "range") rRange2:=by
 intro pins s σ H xs us Q I r h
 obtain⟨lo,hi,rfl,q⟩:=h
 cases r with
 | cons r1 rr =>
  cases rr with
  | cons r2 rr =>
   cases rr
   obtain⟨t,rfl⟩:=r1
   obtain⟨t',rfl⟩:=r2
   refine call_range_2 ⟨.ref s.heap.objs.size,_,I.laid (a:=s.heap.objs.size) (o:=.OF lo hi) (fun b o e=>Heap.get?_push_of_some _ e) (Nat.le_refl _) ?_,rfl,q _ (I.d4.fresh (Nat.le_refl _))⟩
   exact⟨_,_,_,Heap.get?_push_size _ rfl⟩
def rListR:List V→Hp→VK→Prop:=fun xs H Q=>∃ (r:Addr) (lo hi:Int),xs=[.ref r]∧H r=some (.OF lo hi)∧(-(2 ^ 62)≤lo∧lo<2 ^ 62 ∧ -(2 ^ 62)≤hi∧hi<2 ^ 62)∧(hi-lo).toNat≤900∧∀ l,H l=none→Q (.ref l) (upd H l (.lst (((List.range (hi-lo).toNat).map fun i:Nat=>lo+(i:Int)).map V.int)))
theorem Dn:∀ {ns:List Int}{vs:List Value},ns.length=vs.length→(∀ (i:Nat) (n:Int) (v:Value),ns[i]? = some n→vs[i]? = some v→∃ t,v=.int n t)→Vals (ns.map V.int) vs
 | [],[],_,_=>.nil
 | [],_::_,h,_=>by simp at h
 | _::_,[],h,_=>by simp at h
 | n::ns,v::vs,h,k=>by
  refine .cons ?_ (Dn (by simpa using h) fun i n v h1 h2=>k (i+1) n v h1 h2)
  obtain⟨t,e⟩:=k 0 n v rfl rfl
  exact⟨t,e⟩
theorem Jt (hc:X.calm=true):gH X (.type "list") rListR:=by
 intro pins s σ H xs us Q I r h
 obtain⟨ra,lo,hi,rfl,hr,⟨h1,h2,h3,h4⟩,hsz,q⟩:=h
 obtain⟨u,rfl,rx⟩:=vals1 r
 cases rx
 have hA:X.A.handled=none:=I.ok.hd hc
 obtain⟨t,u,v,e⟩:=(show gj X.prog X.w H s.heap ra (.OF lo hi) from I.d4 ra _ hr)
 have en:Builtin.Range.rangeSize lo hi 1=(((hi-lo).toNat:Nat):Int):=by rw[rangeSize_one];split<;>omega
 refine call_list_range hA (show IsRange s.heap ra lo hi 1 t u v from e) (small_one h1 h2 h3 h4) en (by omega) fun h' tk acc c kp he QT=>?_
 obtain⟨hz,To⟩:=QT
 have z9:(1000:Nat)≤sizeLine:=by decide
 refine⟨.ref s.heap.objs.size,_,I.laid (a:=s.heap.objs.size) (o:=.lst (((List.range (hi-lo).toNat).map fun i:Nat=>lo+(i:Int)).map V.int)) (t':=tk) kp (Nat.le_refl _) ⟨?_,acc.toList,c,?_,?_⟩,rfl,q _ (I.d4.fresh (Nat.le_refl _))⟩
 ·rw[List.length_map,List.length_map,List.length_range];omega
 ·refine Dn (by rw[List.length_map,List.length_range];simpa using hz.symm) fun i n w e1 e2=>?_
  rw[List.getElem?_map] at e1
  obtain⟨j,ej,rfl⟩:=Option.map_eq_some_iff.mp e1
  have hj:=(List.getElem?_eq_some_iff.mp ej)
  obtain⟨hj1,Xz⟩:=hj
  rw[List.getElem_range] at Xz
  subst Xz
  obtain⟨t',e'⟩:=To i w (by simpa using e2)
  exact⟨t',by rw[e',Int.mul_one]⟩
 ·simpa using he
end
end L2
namespace SH
open PySem L2
theorem aR:∀ {lo m:Int}{ps:List Int},placesOk lo m ps↔(∀ p∈ps,lo≤p∧p<m)∧ps.Pairwise (·<·)
 | _,_,[]=>⟨fun _=>⟨(fun _ h=>nomatch h),List.Pairwise.nil⟩,fun _=>trivial⟩
 | lo,m,p::r=>by
  constructor
  ·rintro⟨h1,h2,h3⟩
   obtain⟨a,b⟩:=aR.mp h3
   refine⟨fun q hq=>?_,List.pairwise_cons.mpr ⟨fun q hq=>by have:=(a q hq).1;omega,b⟩⟩
   rcases List.mem_cons.mp hq with z | z
   ·subst z;exact⟨h1,h2⟩
   ·have:=a q z;omega
  ·rintro⟨a,b⟩
   obtain⟨c,d⟩:=List.pairwise_cons.mp b
   have:=a p List.mem_cons_self
   exact⟨this.1,this.2,aR.mpr ⟨fun q hq=>⟨by have:=c q hq;omega,(a q (List.mem_cons_of_mem _ hq)).2⟩,d⟩⟩
def both (ps qs:List Int):List Int:=qs.map fun q=>ps.getD q.toNat 0
theorem getD_at {α:Type}{ps:List α}{d:α}{q:Int} (h0:0≤q) (h1:q<ps.length):∃ h:q.toNat<ps.length,ps.getD q.toNat d=ps[q.toNat]:=by
 have h:q.toNat<ps.length:=by omega
 exact⟨h,by rw[List.getD_eq_getElem?_getD,List.getElem?_eq_getElem h];rfl⟩
theorem O6 {m:Int}{ps qs:List Int} (hp:placesOk 0 m ps) (hq:placesOk 0 ps.length qs):placesOk 0 m (both ps qs):=by
 obtain⟨a,b⟩:=aR.mp hp
 obtain⟨c,d⟩:=aR.mp hq
 refine aR.mpr ⟨fun p h=>?_,?_⟩
 ·obtain⟨q,E6,rfl⟩:=List.mem_map.mp h
  obtain⟨h1,e⟩:=getD_at (d:=(0:Int)) (c q E6).1 (c q E6).2
  rw[e]
  exact a _ (List.getElem_mem h1)
 ·refine List.pairwise_map.mpr (d.imp_of_mem fun {x y} hx hy hxy=>?_)
  obtain⟨h1,e1⟩:=getD_at (d:=(0:Int)) (c x hx).1 (c x hx).2
  obtain⟨h2,e2⟩:=getD_at (d:=(0:Int)) (c y hy).1 (c y hy).2
  rw[e1,e2]
  exact List.pairwise_iff_getElem.mp b _ _ h1 h2 (by have:=(c x hx).1;omega)
theorem NG (ps qs:List Int):(both ps qs).length=qs.length:=List.length_map _
def HL (xs:List V) (ps:List Int):List V:=ps.map fun i=>xs.getD i.toNat .cU
theorem Ju {xs:List V}{ps qs:List Int} (hq:placesOk 0 ps.length qs):HL (HL xs ps) qs=HL xs (both ps qs):=by
 unfold HL both
 rw[List.map_map]
 apply List.map_congr_left
 intro q h
 obtain⟨q0,q1⟩:=ck hq q h
 obtain⟨h1,e⟩:=getD_at (d:=(0:Int)) q0 q1
 show (ps.map fun i=>xs.getD i.toNat .cU).getD q.toNat .cU=xs.getD (ps.getD q.toNat 0).toNat .cU
 rw[e,List.getD_eq_getElem?_getD,List.getElem?_map,List.getElem?_eq_getElem h1]
 rfl
theorem NH {ns:List Nd} (hd:dG 0 ns):∀ i,i≤ns.length→gn 0 (ns.take i)=min ((way (ns.take i)).length:Int) 12:=by
 intro i
 induction i with
 | zero=>intro _;rw[List.take_zero];rfl
 | succ i ih =>
  intro hi
  have hn:ns[i]? = some ns[i]:=List.getElem?_eq_getElem (by omega)
  have h:=ih (by omega)
  obtain⟨_,d0,Wa⟩:=CP hd hn
  have e:ns=ns.take i++(ns[i]::ns.drop (i+1)):=by
   have q:=List.take_append_drop (i+1) ns
   rw[List.take_add_one,hn,List.append_assoc] at q
   exact q.symm
  have Et:=hd
  rw[e] at Et
  obtain⟨_,_,_,h3,_⟩:=gb.mp Et
  rw[p3 hn,List.length_append,List.length_take,List.length_singleton]
  have e2:ns.take (i+1)=ns.take i++[ns[i]]:=by rw[List.take_add_one,hn];rfl
  rw[e2,ja]
  show min (ns[i].2+1) 12=_
  omega
theorem NI {ns:List Nd} (hd:dG 0 ns) {k:Nat}{n:Nd} (h:ns[k]? = some n):((Es ns k).length:Int)=n.2:=by
 have hk:=(List.getElem?_eq_some_iff.mp h).1
 obtain⟨_,d0,Wa⟩:=CP hd h
 have e:ns=ns.take k++(n::ns.drop (k+1)):=by
  have q:=List.take_append_drop (k+1) ns
  rw[List.take_add_one,h,List.append_assoc] at q
  exact q.symm
 have Et:=hd
 rw[e] at Et
 obtain⟨_,_,_,h3,_⟩:=gb.mp Et
 have w:=NH hd k (by omega)
 rw[za h,List.length_take]
 omega
theorem Jv {ns:List Nd}{ps qs:List Int} (hd:dG 0 ns) (hp:placesOk 0 ns.length ps) (hq:placesOk 0 ps.length qs):eU (eU ns ps) qs=eU ns (both ps qs):=by
 obtain⟨a,b⟩:=aR.mp hp
 have hbo:=O6 hp hq
 unfold eU
 show qs.map (me (eU ns ps) qs)=(qs.map fun q=>ps.getD q.toNat 0).map (me ns (both ps qs))
 rw[List.map_map]
 apply List.map_congr_left
 intro q h
 obtain⟨q0,q1⟩:=ck hq q h
 obtain⟨h1,e⟩:=getD_at (d:=(0:Int)) q0 q1
 have hk:ps[q.toNat]? = some ps[q.toNat]:=List.getElem?_eq_getElem h1
 show me (eU ns ps) qs q=me ns (both ps qs) (ps.getD q.toNat 0)
 rw[e]
 have ew:=HK hd hp hk
 have lL:(eU ns ps).length=ps.length:=List.length_map _
 have e1:((eU ns ps).getD q.toNat ("",0)).1=(ns.getD (ps[q.toNat]).toNat ("",0)).1:=by
  unfold eU
  rw[List.getD_eq_getElem?_getD,List.getElem?_map,hk]
  rfl
 unfold me
 rw[e1]
 refine congrArg (fun n:Nat=>((ns.getD (ps[q.toNat]).toNat ("",0)).1,(n:Int))) ?_
 have e2:kept (both ps qs) (Es ns (ps[q.toNat]).toNat)=kept (both ps qs) (kept ps (Es ns (ps[q.toNat]).toNat)):=by
  unfold kept
  rw[List.filter_filter]
  apply List.filter_congr
  intro j _
  by_cases hj:j∈both ps qs
  ·have:j∈ps:=by
    obtain⟨q',E6,rfl⟩:=List.mem_map.mp hj
    obtain⟨c0,c1⟩:=ck hq q' E6
    obtain⟨h2,e3⟩:=getD_at (d:=(0:Int)) c0 c1
    rw[e3]
    exact List.getElem_mem h2
   simp [hj,this]
  ·simp [hj]
 rw[e2,←ew]
 unfold kept
 rw[List.filter_map,List.length_map]
 refine congrArg List.length (List.filter_congr fun j hj=>?_)
 obtain⟨j0,j1⟩:=O4 (ns:=eU ns ps) (k:=q.toNat) (by omega) j hj
 have Y6:j<ps.length:=by omega
 obtain⟨h2,e3⟩:=getD_at (d:=(0:Int)) j0 Y6
 show decide (j∈qs)=decide (ps.getD j.toNat 0∈both ps qs)
 refine decide_eq_decide.mpr ⟨fun z=>List.mem_map.mpr ⟨j,z,rfl⟩,fun z=>?_⟩
 obtain⟨q',E6,e4⟩:=List.mem_map.mp z
 obtain⟨c0,c1⟩:=ck hq q' E6
 obtain⟨h4,e5⟩:=getD_at (d:=(0:Int)) c0 c1
 rw[e3,e5] at e4
 have:q'.toNat=j.toNat:=by
  rcases Nat.lt_trichotomy q'.toNat j.toNat with l | l | l
  ·have:=List.pairwise_iff_getElem.mp b _ _ h4 h2 l;omega
  ·exact l
  ·have:=List.pairwise_iff_getElem.mp b _ _ h2 h4 l;omega
 have:q'=j:=by omega
 rw[←this]
 exact E6
theorem FX {n:Nat}:∀ {lo m:Int}{ps:List Int},placesOk lo m ps→ps=linesOf n ps++(bB n ps).map fun j=>j+(n:Int)
 | _,_,[],_=>rfl
 | lo,m,p::r,h=>by
  obtain⟨h1,h2,h3⟩:=h
  have ec:∀ qs:List Int,(bB n qs).map (fun j=>j+(n:Int))=qs.filter fun i=>decide ((n:Int)≤i):=fun qs=>by
   unfold bB
   rw[List.map_map]
   have:((fun j=>j+(n:Int)) ∘ fun i=>i-(n:Int))=(id:Int→Int):=by funext x;show x-(n:Int)+n=x;omega
   rw[this,List.map_id]
  have ih:=FX (n:=n) h3
  rw[ec] at ih ⊢
  unfold linesOf at ih ⊢
  by_cases hp:p<(n:Int)
  ·rw[List.filter_cons,if_pos (decide_eq_true hp),List.filter_cons,if_neg (by simp;omega),List.cons_append,←ih]
  ·have e1:r.filter (fun i=>decide (i<(n:Int)))=[]:=by
    rw[List.filter_eq_nil_iff]
    intro x hx
    have:=(ck h3 x hx).1
    simp;omega
   have e2:r.filter (fun i=>decide ((n:Int)≤i))=r:=by
    rw[List.filter_eq_self]
    intro x hx
    have:=(ck h3 x hx).1
    simp;omega
   rw[List.filter_cons,if_neg (by simp;omega),List.filter_cons,if_pos (decide_eq_true (by omega)),e1,e2]
   rfl
theorem Ln {n:Nat}{m:Int}{ps:List Int} (hp:placesOk 0 m ps) {q:Int} (h0:0≤q) (h1:q<(linesOf n ps).length):ps.getD q.toNat 0=(linesOf n ps).getD q.toNat 0:=by
 have h:q.toNat<(linesOf n ps).length:=by omega
 have e:=FX (n:=n) hp
 have g:ps[q.toNat]? = (linesOf n ps)[q.toNat]? := by
  have:=congrArg (fun l:List Int=>l[q.toNat]?) e
  rw[show ps[q.toNat]? = _ from this]
  rw[ List.getElem?_append_left h]
 rw[List.getD_eq_getElem?_getD,List.getD_eq_getElem?_getD,g]
theorem NJ {n:Nat}{m:Int}{ps:List Int} (hp:placesOk 0 m ps) {q:Int} (h0:((linesOf n ps).length:Int)≤q) (h1:q<ps.length):ps.getD q.toNat 0=(bB n ps).getD (q-(linesOf n ps).length).toNat 0+n:=by
 have e:=FX (n:=n) hp
 have hl:=wY (n:=n) ps
 have hc:(q-((linesOf n ps).length:Int)).toNat<(bB n ps).length:=by omega
 have g:ps[q.toNat]? = some ((bB n ps)[(q-((linesOf n ps).length:Int)).toNat]+(n:Int)):=by
  have:=congrArg (fun l:List Int=>l[q.toNat]?) e
  rw[show ps[q.toNat]? = _ from this]
  rw[ List.getElem?_append_right (by omega),List.getElem?_map,show q.toNat-(linesOf n ps).length=(q-((linesOf n ps).length:Int)).toNat by omega,List.getElem?_eq_getElem hc]
  rfl
 rw[List.getD_eq_getElem?_getD,List.getD_eq_getElem?_getD,g,List.getElem?_eq_getElem hc]
 rfl
theorem HM {n:Nat}{ps:List Int}:∀ i∈bB n ps,0≤i:=fun i h=>by
 obtain⟨j,hj,rfl⟩:=List.mem_map.mp h
 have:=of_decide_eq_true (List.mem_filter.mp hj).2
 omega
theorem HN {n:Nat}{m:Int}{ps:List Int} (hp:placesOk 0 m ps) {q:Int} (h0:0≤q) (h1:q<ps.length):ps.getD q.toNat 0<(n:Int)↔q<((linesOf n ps).length:Int):=by
 constructor
 ·intro z
  refine Decidable.byContradiction fun c=>?_
  have hl:=wY (n:=n) ps
  have e:=NJ (n:=n) hp (by omega) h1
  obtain⟨h2,e2⟩:=getD_at (ps:=bB n ps) (d:=(0:Int)) (q:=q-(linesOf n ps).length) (by omega) (by omega)
  have:=HM (n:=n) (ps:=ps) _ (List.getElem_mem h2)
  omega
 ·intro z
  rw[Ln hp h0 z]
  obtain⟨h2,e2⟩:=getD_at (ps:=linesOf n ps) (d:=(0:Int)) h0 z
  rw[e2]
  exact (nv hp _ (List.getElem_mem h2)).2
theorem FY {n:Nat}{m:Int}{ps qs:List Int} (hp:placesOk 0 m ps) (hq:placesOk 0 ps.length qs):linesOf n (both ps qs)=both (linesOf n ps) (linesOf (linesOf n ps).length qs):=by
 show ((qs.map fun q=>ps.getD q.toNat 0).filter fun i=>decide (i<(n:Int)))=(qs.filter fun i=>decide (i<(((linesOf n ps).length:Nat):Int))).map fun q=>(linesOf n ps).getD q.toNat 0
 rw[List.filter_map]
 have e:qs.filter ((fun i=>decide (i<(n:Int))) ∘ fun q=>ps.getD q.toNat 0)=qs.filter fun i=>decide (i<(((linesOf n ps).length:Nat):Int)):=by
  apply List.filter_congr
  intro q h
  obtain⟨q0,q1⟩:=ck hq q h
  exact decide_eq_decide.mpr (HN hp q0 q1)
 rw[e]
 apply List.map_congr_left
 intro q h
 obtain⟨ha,hb⟩:=List.mem_filter.mp h
 obtain⟨q0,q1⟩:=ck hq q ha
 exact Ln hp q0 (of_decide_eq_true hb)
theorem B8 {n:Nat}{m:Int}{ps qs:List Int} (hp:placesOk 0 m ps) (hq:placesOk 0 ps.length qs):bB n (both ps qs)=both (bB n ps) (bB (linesOf n ps).length qs):=by
 show ((qs.map fun q=>ps.getD q.toNat 0).filter fun i=>decide ((n:Int)≤i)).map (fun i=>i-(n:Int))=((qs.filter fun i=>decide ((((linesOf n ps).length:Nat):Int)≤i)).map fun i=>i-(((linesOf n ps).length:Nat):Int)).map fun q=>(bB n ps).getD q.toNat 0
 rw[List.filter_map,List.map_map,List.map_map]
 have e:qs.filter ((fun i=>decide ((n:Int)≤i)) ∘ fun q=>ps.getD q.toNat 0)=qs.filter fun i=>decide ((((linesOf n ps).length:Nat):Int)≤i):=by
  apply List.filter_congr
  intro q h
  obtain⟨q0,q1⟩:=ck hq q h
  have:=HN (n:=n) hp q0 q1
  refine decide_eq_decide.mpr ?_
  show (n:Int)≤ps.getD q.toNat 0↔_
  omega
 rw[e]
 apply List.map_congr_left
 intro q h
 obtain⟨ha,hb⟩:=List.mem_filter.mp h
 obtain⟨q0,q1⟩:=ck hq q ha
 have:=NJ (n:=n) hp (of_decide_eq_true hb) q1
 show ps.getD q.toNat 0-(n:Int)=(bB n ps).getD (q-(((linesOf n ps).length:Nat):Int)).toNat 0
 omega
theorem Fl (ls:List (List V)) (ps:List Int):(iZ ls ps).length=(linesOf ls.length ps).length:=List.length_map _
theorem Jw {ls:List (List V)}{m:Int}{ps qs:List Int} (hp:placesOk 0 m ps) (hq:placesOk 0 ps.length qs):iZ (iZ ls ps) qs=iZ ls (both ps qs)∧(bB (iZ ls ps).length qs).length=(bB ls.length (both ps qs)).length:=by
 have hl:=wY (n:=ls.length) ps
 have E6:placesOk 0 (((linesOf ls.length ps).length:Int)+((bB ls.length ps).length:Int)) qs:=by
  rw[show ((linesOf ls.length ps).length:Int)+((bB ls.length ps).length:Int)=ps.length by omega];exact hq
 refine⟨?_,by rw[Fl,B8 hp hq,NG]⟩
 unfold iZ
 rw[FY hp hq,B8 hp hq,List.length_map]
 unfold both
 rw[List.map_map]
 apply List.map_congr_left
 intro i hi
 obtain⟨i0,i1⟩:=nv E6 i hi
 obtain⟨h1,e1⟩:=getD_at (ps:=linesOf ls.length ps) (d:=(0:Int)) i0 i1
 show _=List.map _ (List.map _ _)
 rw[List.map_map]
 apply List.map_congr_left
 intro j hj
 obtain⟨j0,j1⟩:=rp E6 j hj
 obtain⟨h2,e2⟩:=getD_at (ps:=bB ls.length ps) (d:=(0:Int)) j0 j1
 show ((List.map (fun i=>(bB ls.length ps).map fun j=>(ls.getD i.toNat []).getD j.toNat .cU) (linesOf ls.length ps)).getD i.toNat []).getD j.toNat .cU=(ls.getD ((linesOf ls.length ps).getD i.toNat 0).toNat []).getD ((bB ls.length ps).getD j.toNat 0).toNat .cU
 rw[e1,e2,List.getD_eq_getElem?_getD (l:=List.map _ (linesOf ls.length ps)),List.getElem?_map,List.getElem?_eq_getElem h1]
 show (List.map (fun j=>(ls.getD (linesOf ls.length ps)[i.toNat].toNat []).getD j.toNat V.cU) (bB ls.length ps)).getD j.toNat V.cU=_
 rw[List.getD_eq_getElem?_getD,List.getElem?_map,List.getElem?_eq_getElem h2]
 rfl
end SH
namespace L2
open PySem PySem.Spec PyProof.Rows
theorem A9 {x:V}:∀ {xs:List V}{us:List Value},Vals xs us→xs.all rl=true→us.countP (MG x)=xs.countP fun y=>Lb y x
 | _,_,.nil,_=>rfl
 | y::xs,u::us,.cons r t,f=>by
  rw[List.all_cons,Bool.and_eq_true] at f
  rw[List.countP_cons,List.countP_cons,Jf r f.1,A9 t f.2]
section
variable {X:Cx}
def rCountT (K:PySem.W.Frag):V→List V→Hp→VK→Prop:=fun x vs H Q=>∃ t xs y,x=.ref t∧vs=[y]∧df K H t xs∧rl y=true∧xs.all rl=true∧Q (.int ((xs.countP fun z=>Lb z y:Nat):Int)) H
theorem Mh:SG X "tuple.count" (rCountT X.K):=by
 intro pins s σ H x vs v us Q I rx rv h
 obtain⟨t,xs,y,rfl,rfl,hq,fy,fs,q⟩:=h
 cases rx
 obtain⟨u,rfl,ru⟩:=rv.one
 obtain⟨bF,r,p,hz⟩:=I.tuple hq
 obtain⟨⟨oc,od,Wb,LW⟩,ho,hc,n,hd⟩:=p
 replace hc:oc=.type "tuple" := hc
 replace hd:Wb=.seq bF.toArray n:=hd
 subst hc hd
 refine call_meets F.slot_tuple_count ⟨_,ho,rfl⟩ F.entry_tuple_count (F.args_tuple_count_2 _ _) (SeqAt.tuple_countAt t bF.toArray n od LW u (MG y)) ⟨ho,fun w hw=>wN ru fy r fs w (by simpa using hw),?_⟩
 refine⟨.int _,H,I.tok _,⟨_,rfl⟩,?_⟩
 rw[show bF.toArray.toList=bF by simp,A9 r fs]
 exact q
end
def zb (H:Hp) (t:Addr) (xs:List V):Prop:=∃ o:Obj,H t=some (.yE o (.tup xs))∧o.cls=.type "tuple" ∧ o.dict=none
theorem zb.sq {K:PySem.W.Frag}{H:Hp}{t:Addr}{xs:List V} (h:zb H t xs):df K H t xs:=let ⟨o,e,_⟩:=h;.inl (.inr ⟨o,e⟩)
theorem zb.keep {H H':Hp}{t:Addr}{xs:List V} (s:∀ b o,(∀ zs,o≠HO.lst zs)→H b=some o→H' b=some o) (h:zb H t xs):zb H' t xs:=let ⟨o,e,r⟩:=h;⟨o,s _ (.yE o _) (fun _ z=>nomatch z) e,r⟩
theorem zb.to {H H':Hp}{t:Addr}{xs:List V} (h:zb H t xs) (s:∀ o,H t=some (.yE o (.tup xs))→H' t=some (.yE o (.tup xs))):zb H' t xs:=let ⟨o,e,r⟩:=h;⟨o,s o e,r⟩
section
variable {X:Cx}
def rTupF (K:PySem.W.Frag):List V→Hp→VK→Prop:=fun xs H Q=>∃ p ys,xs=[.ref p]∧bA K H p ys∧∀ l (o:Obj),H l=none→o.cls=.type "tuple" → o.dict=none→Q (.ref l) (upd H l (.yE o (.tup ys)))
theorem Mi:gH X (.type "tuple") (rTupF X.K):=by
 intro pins s σ H xs us Q I r h
 obtain⟨p,ys,rfl,hq,q⟩:=h
 obtain⟨u,rfl,rx⟩:=vals1 r
 cases rx
 obtain⟨bF,r',pl,hz⟩:=I.list hq
 have hlen:=r'.length
 refine call_tuple_list pl.isList (fun h' kp=>?_) (by simp only[List.size_toArray]<;>omega)
 have I1:Inv X pins σ H { s with heap:=h' }:=I.kept (t':=s.toks) kp
 have I2:Inv X pins σ (upd H h'.objs.size (.yE { cls:=.type "tuple",data:=.seq bF.toArray } (.tup ys))) { s with heap:=h'.push { cls:=.type "tuple",data:=.seq bF.toArray } } :=
  I1.laid (t':=s.toks) (fun b o e=>Heap.get?_push_of_some _ e) (Nat.le_refl _) ⟨Heap.get?_push_size _ rfl,hz,bF,r',IsTup.new _ _⟩
 exact⟨.ref h'.objs.size,_,I2,rfl,q _ _ (I1.d4.fresh (Nat.le_refl _)) rfl rfl⟩
def tCountF (K:PySem.W.Frag) (to:TE) (t:TA):TE:=fun σ H Q=>to σ H fun x H1=>∃ p zs,x=.ref p∧zb H1 p zs∧t σ H1 fun xs H2=>rCountT K x xs H2 Q
theorem Mj {o e:Expr}{to:TE}{t:TA}{apos lX:Pos} (ho:PE X o to) (ha:PA X [e] t)
  (He:attributeBase o "count" X.env (eval o X.env)=eval o X.env:=by rfl)
  (QC:((backTo lX (starEach [e] X.env)).all (fun x => !x.1)&&(backToKw lX (keywordEach [] X.env)).all (fun x=>x.1.isSome)
   && decide (([e]:List Expr).length+([]:List Keyword).length+(if ([]:List Keyword).isEmpty then 0 else 1)<30))=true:=by rfl)
  (Hf:(apos.endLine==lX.line)=true:=by rfl) (hs:starEach [e] X.env=(false,eval e X.env)::starEach [] X.env:=by rfl) (Jg:(backTo lX (starEach [] X.env)).any (·.1)=false:=by rfl) :
  PE X (.Call (.Attribute o "count" apos) [e] [] lX) (tCountF X.K to t):=by
 intro pins s σ H Q I h
 refine wpAny_Call_method_late He QC Hf rfl (gZ (ho pins s σ H _ I h) fun v s1 ⟨x,H1,I1,r1,p,zs,ex,⟨ob,hf,hc,hd⟩,q1⟩=>?_)
 subst ex
 cases r1
 obtain⟨e1,_⟩:=(show gj X.prog X.w H1 s1.heap p (.yE ob (.tup zs)) from I1.d4 p _ hf)
 refine⟨"tuple","tuple.count",PySem.F.plainAttrs_tuple,PySem.F.slot_tuple_count,PySem.F.type_tuple_count,⟨ob,e1,hc⟩,fun a z=>by cases z;exact⟨ob,e1,hd⟩,?_⟩
 have hA:=ha lX pins s1 σ H1 _ I1 q1
 rw[hs] at hA ⊢
 refine Calls.callWith_builtin (by show (false||(backTo lX (starEach [] X.env)).any (·.1))=false;rw[Jg]<;>rfl) (Calls.evalArgs_plain ?_)
 exact gZ hA fun us s2 ⟨vs,H2,I2,r2,q2⟩=>Mh pins s2 σ H2 (.ref p) vs _ us Q I2 rfl r2 q2
end
theorem Jx {X:Cx}{i j:Nat}{x y:Str}{p1 p2 pos:Pos}{kk:Nat} (hc:X.calm=true) (hN:X.N.Nodup) (hi:X.N[i]? = some x) (hj:X.N[j]? = some y) (hx:Loc X.env.scope x) (hy:Loc X.env.scope y)
  (UL : X.fn x = true ∨ X.env.scope.names.lookup x = some .local := by first | exact .inl rfl | exact .inr rfl | assumption) (Y7 : X.fn y = true ∨ X.env.scope.names.lookup y = some .local := by first | exact .inl rfl | exact .inr rfl | assumption) :
  PG X (.Tuple [.Name x p1,.Name y p2] kk pos) (gTup X.K 2 (gCons (gName i) (gCons (gName j) gNil))):=MU hc (Aa (aZ hN hi hx UL) (Aa (aZ hN hj hy Y7) K3))
theorem Jy {K:PySem.W.Frag}{a:Addr}{xs:List V}{x0 x1:Str}{ix:List Nat}{ti:TT}{te:TE}{Q:VK}{σ:St}{H:Hp} (Pv:Nat→List V→Hp→Prop) (h0:Pv 0 [] H) (hl:∀ i ys H,i≤xs.length→Pv i ys H→df K H a xs)
  (hs:∀ i x ys H T (R:List V→Hp→Prop),xs[i]? = some x→Pv i ys H→H T=none→(∀ mU H',Pv (i+1) mU H'→R mU H')→ti (some (.int (i:Nat))::some x::ix.map fun j=>(σ[j]?).join) (upd H T (.tup [.int (i:Nat),x])) fun b H3=>if b=true then te (some (.int (i:Nat))::some x::ix.map fun j=>(σ[j]?).join) H3 fun y H4=>ys.length<sizeLine∧R (ys++[y]) H4 else R ys H3)
  (hd:∀ ys H,Pv xs.length ys H→ys.length≤sizeLine∧∀ D,H D=none→Q (.ref D) (upd H D (.lst ys))) :
  ∃ W:Nat→Nat→List V→St→Hp→Prop,(∃ m,W 0 m [] (rm σ [x0,x1] ix) H)∧∀ i m ys σ' H,W i m ys σ' H →
   ((FU K a).stop i H∧ys.length≤sizeLine∧∀ D,H D=none→Q (.ref D) (upd H D (.lst ys))) ∨
   ((FU K a).go i H∧∀ x H',(FU K a).IH i H x H'→gTup K 2 (gCons (gName 0) (gCons (gName 1) gNil)) x σ' H' fun σ2 H2=>ti σ2 H2 fun b H3=>if b=true then te σ2 H3 fun y H4=>ys.length<sizeLine∧∃ m',m'<m∧W (i+1) m' (ys++[y]) σ2 H4 else ∃ m',m'<m∧W (i+1) m' ys σ2 H3):=by
 refine⟨fun i m ys σ' H=>m=xs.length-i∧i≤xs.length∧(∃ o o',σ'=o::o'::ix.map fun j=>(σ[j]?).join)∧Pv i ys H,⟨xs.length,by simp,Nat.zero_le _,⟨none,none,rfl⟩,h0⟩,?_⟩
 rintro i m ys σ' H ⟨rfl,hi,⟨o,o',rfl⟩,p⟩
 have q:=hl i ys H hi p
 by_cases qt:i<xs.length
 ·refine .inr ⟨⟨xs,xs[i],q,by simp [qt]⟩,fun v H' y=>?_⟩
  obtain⟨T,x,hT,rfl,y,rfl⟩:=y
  refine⟨T,[.int i,x],rfl,df.of ag,rfl,.int i,[x],rfl,x,[],rfl,rfl,?_⟩
  exact hs i x ys H T (fun mU H4=>∃ m',m'<xs.length-i∧m'=xs.length-(i+1)∧i+1≤xs.length∧(∃ o o',(some (.int (i:Nat))::some x::ix.map fun j=>(σ[j]?).join)=o::o'::ix.map fun j=>(σ[j]?).join)∧Pv (i+1) mU H4) (y xs q) p hT
   fun mU H4 z=>⟨xs.length-(i+1),by omega,rfl,qt,⟨_,_,rfl⟩,z⟩
 ·have e:i=xs.length:=by omega
  subst e
  exact .inl ⟨⟨xs,q,rfl⟩,hd ys H p⟩
theorem HP {K:PySem.W.Frag}{a:Addr}{xs:List V}{x0 x1:Str}{ix:List Nat}{wi:TI}{ti:TT}{te:TE}{Q:VK}{σ:St}{H H1:Hp} (hi:∀ R:It→Hp→Prop,R (FU K a) H1→wi σ H R) (Pv:Nat→List V→Hp→Prop) (h0:Pv 0 [] H1) (hl:∀ i ys H,i≤xs.length→Pv i ys H→df K H a xs)
  (hs:∀ i x ys H T (R:List V→Hp→Prop),xs[i]? = some x→Pv i ys H→H T=none→(∀ mU H',Pv (i+1) mU H'→R mU H')→ti (some (.int (i:Nat))::some x::ix.map fun j=>(σ[j]?).join) (upd H T (.tup [.int (i:Nat),x])) fun b H3=>if b=true then te (some (.int (i:Nat))::some x::ix.map fun j=>(σ[j]?).join) H3 fun y H4=>ys.length<sizeLine∧R (ys++[y]) H4 else R ys H3)
  (hd:∀ ys H,Pv xs.length ys H→ys.length≤sizeLine∧∀ D,H D=none→Q (.ref D) (upd H D (.lst ys))):sT [x0,x1] ix wi (gTup K 2 (gCons (gName 0) (gCons (gName 1) gNil))) ti te σ H Q:=hi _ (Jy Pv h0 hl hs hd)
end L2
namespace L2
open PySem PySem.Spec PyProof.Rows
theorem NK {K:PySem.W.Frag}{a:Addr}{xs:List V}{x0:Str}{ix:List Nat}{ti:TT}{te:TE}{Q:VK}{σ:St}{H:Hp} (Pv:Nat→List V→Hp→Prop) (h0:Pv 0 [] H) (hl:∀ i ys H,i≤xs.length→Pv i ys H→df K H a xs)
  (hs:∀ i x ys H (R:List V→Hp→Prop),xs[i]? = some x→Pv i ys H→(∀ mU H',Pv (i+1) mU H'→R mU H')→ti (some x::ix.map fun j=>(σ[j]?).join) H fun b H3=>if b=true then te (some x::ix.map fun j=>(σ[j]?).join) H3 fun y H4=>ys.length<sizeLine∧R (ys++[y]) H4 else R ys H3)
  (hd:∀ ys H,Pv xs.length ys H→ys.length≤sizeLine∧∀ D,H D=none→Q (.ref D) (upd H D (.lst ys))) :
  ∃ W:Nat→Nat→List V→St→Hp→Prop,(∃ m,W 0 m [] (rm σ [x0] ix) H)∧∀ i m ys σ' H,W i m ys σ' H →
   ((MX K a).stop i H∧ys.length≤sizeLine∧∀ D,H D=none→Q (.ref D) (upd H D (.lst ys))) ∨
   ((MX K a).go i H∧∀ x H',(MX K a).IH i H x H'→gName 0 x σ' H' fun σ2 H2=>ti σ2 H2 fun b H3=>if b=true then te σ2 H3 fun y H4=>ys.length<sizeLine∧∃ m',m'<m∧W (i+1) m' (ys++[y]) σ2 H4 else ∃ m',m'<m∧W (i+1) m' ys σ2 H3):=by
 refine⟨fun i m ys σ' H=>m=xs.length-i∧i≤xs.length∧(∃ o,σ'=o::ix.map fun j=>(σ[j]?).join)∧Pv i ys H,⟨xs.length,by simp,Nat.zero_le _,⟨none,rfl⟩,h0⟩,?_⟩
 rintro i m ys σ' H ⟨rfl,hi,⟨o,rfl⟩,p⟩
 have q:=hl i ys H hi p
 by_cases qt:i<xs.length
 ·refine .inr ⟨⟨xs,xs[i],q,by simp [qt]⟩,fun x H' y=>?_⟩
  obtain⟨e,y⟩:=y
  subst e
  exact hs i x ys _ (fun mU H4=>∃ m',m'<xs.length-i∧m'=xs.length-(i+1)∧i+1≤xs.length∧(∃ o',some x::(ix.map fun j=>(σ[j]?).join)=o'::ix.map fun j=>(σ[j]?).join)∧Pv (i+1) mU H4) (y xs q) p
   fun mU H4 z=>⟨xs.length-(i+1),by omega,rfl,qt,⟨_,rfl⟩,z⟩
 ·have e:i=xs.length:=by omega
  subst e
  exact .inl ⟨⟨xs,q,Nat.le_refl _⟩,hd ys H p⟩
theorem uJ {K:PySem.W.Frag}{a:Addr}{xs:List V}{x0:Str}{ix:List Nat}{wi:TI}{ti:TT}{te:TE}{Q:VK}{σ:St}{H H1:Hp} (hi:∀ R:It→Hp→Prop,R (MX K a) H1→wi σ H R) (Pv:Nat→List V→Hp→Prop) (h0:Pv 0 [] H1) (hl:∀ i ys H,i≤xs.length→Pv i ys H→df K H a xs)
  (hs:∀ i x ys H (R:List V→Hp→Prop),xs[i]? = some x→Pv i ys H→(∀ mU H',Pv (i+1) mU H'→R mU H')→ti (some x::ix.map fun j=>(σ[j]?).join) H fun b H3=>if b=true then te (some x::ix.map fun j=>(σ[j]?).join) H3 fun y H4=>ys.length<sizeLine∧R (ys++[y]) H4 else R ys H3)
  (hd:∀ ys H,Pv xs.length ys H→ys.length≤sizeLine∧∀ D,H D=none→Q (.ref D) (upd H D (.lst ys))):sT [x0] ix wi (gName 0) ti te σ H Q:=hi _ (NK Pv h0 hl hs hd)
end L2
namespace SH
open PySem L2
def idxs {α:Type} (P:α→Bool):Nat→List α→List Int
 | _,[]=>[]
 | k,x::xs=>(if P x then [(k:Int)] else [])++idxs P (k+1) xs
theorem B9 {α:Type} (P:α→Bool):∀ (xs ys:List α) (k:Nat),idxs P k (xs++ys)=idxs P k xs++idxs P (k+xs.length) ys
 | [],ys,k=>rfl
 | x::xs,ys,k=>by
  show (if P x then [(k:Int)] else [])++idxs P (k+1) (xs++ys)=((if P x then [(k:Int)] else [])++idxs P (k+1) xs)++idxs P (k+(x::xs).length) ys
  rw[B9 P xs ys (k+1),List.append_assoc,List.length_cons,show k+1+xs.length=k+(xs.length+1) by omega]
theorem Ml {α:Type}{P:α→Bool}{xs:List α}{i:Nat}{x:α} (h:xs[i]? = some x):idxs P 0 (xs.take (i+1))=idxs P 0 (xs.take i)++if P x then [(i:Int)] else []:=by
 have hi:=(List.getElem?_eq_some_iff.mp h).1
 rw[List.take_add_one,h,B9,List.length_take,Nat.min_eq_left (by omega)]
 show _++((if P x then [((0+i:Nat):Int)] else [])++[])=_
 rw[List.append_nil,Nat.zero_add]
theorem HQ {α:Type} (P:α→Bool):∀ (xs:List α) (k:Nat),(idxs P k xs).length=xs.countP P
 | [],_=>rfl
 | x::xs,k=>by
  show ((if P x then [(k:Int)] else [])++idxs P (k+1) xs).length=_
  rw[List.length_append,HQ P xs (k+1),List.countP_cons]
  cases P x<;>simp<;>omega
theorem Lo {α:Type} (P:α→Bool) (xs:List α) (k:Nat):(idxs P k xs).length≤xs.length:=by rw[HQ];exact List.countP_le_length
theorem _root_.L2.zb.same {H H':Hp}{t:Addr}{xs:List V} (s:aq H H') (h:zb H t xs):zb H' t xs:=let ⟨o,e,r⟩:=h;⟨o,s _ _ e,r⟩
def kC (m:Str) (x:V):Bool:=Lb x (.str m)
end SH
namespace PySem
open Sem (wp)
structure Ao (z TI TO i1 i2:Addr) (f1 f2:List Addr):Prop where
 zt:TO≠z
 kz:TI≠z
 kt:TI≠TO
 k1:TI≠i1
 k2:TI≠i2
 z1:z∉f1
 z2:z∉f2
 t1:TO∉f1
 t2:TO∉f2
 m1:i1∈f1
 m2:i2∈f2
 o1:i1∉f2
 o2:i2∉f1
section
variable {prog:Program}{w:World}{A:Around}{E:Value→Shared→Prop}{s:Shared}{z TI TO i1 i2:Addr}{f1 f2:List Addr}{n1 n2:Nat}{P1 P2:Nat→Value→Prop}{S1 S2:Nat→Heap→Prop}
theorem cy {b:Addr}{h h':Heap} (e:Heap.SameBut b h h') {c:Addr}{o:Obj} (hc:c≠b) (g:h.get? c=some o):h'.get? c=some o:=e.extBut _ _ hc g
theorem Draws.rj {it:Addr}{fp:List Addr}{n i:Nat}{P:Nat→Value→Prop}{St:Nat→Heap→Prop}{h h':Heap}{b:Addr} (D:Draws prog w A it fp n P St) (st:St i h) (hb:b∉fp) (e:Heap.SameBut b h h'):St i h' :=
 D.frame i h h' st fun c hc o g=>cy e (fun q=>hb (q▸hc)) g
theorem Mm {i:Nat}{a b:Value}{Q:Value→Shared→Prop} (W:Ao z TI TO i1 i2 f1 f2) (D1:Draws prog w A i1 f1 n1 P1 S1) (D2:Draws prog w A i2 f2 n2 P2 S2) (l1:i<n1) (l2:i<n2)
  (hz:IsZip s.heap z TI TO .none) (hI:IsPair s.heap TI (.ref i1) (.ref i2)) (hO:IsPair s.heap TO a b) (PN:S1 i s.heap) (IU:S2 i s.heap)
  (q:∀ h' tk x y,P1 i x→P2 i y→IsZip h' z TI TO (rawInt s.heap.objs.size)→IsPair h' TO x y→S1 (i+1) h'→S2 (i+1) h'→IsPair h' s.heap.objs.size x y→(∀ c o,c≠z→c≠TO→c≠i1→c≠i2→s.heap.get? c=some o→h'.get? c=some o)→Q (.ref s.heap.objs.size) { s with heap:=h',toks:=tk }) :
  wpAny (model prog w) A (Builtin.«zip.__next__» ⟨[.ref z],[]⟩) (fun fin s'=>∃ v,fin=.done (.ret v)∧Q v s') E s:=by
 refine wpAny_bind (m:=field (.ref z) 2) (wpAny_field hz rfl (x:=.bool false) rfl (wpAny_bind (m:=field (.ref z) 3) (wpAny_field hz rfl (x:=.ref TI) rfl (wpAny_bind (wpAny_seqItems hI rfl ?_)))))
 refine wpAny_bind (m:=Builtin.SmallTypes.ownedTupleIsFree (.ref z)) (wpAny_bind (wpAny_field hz rfl (x:=.none) rfl (wpAny_pure ?_)))
 simp only[if_true]
 refine wpAny_bind (wpAny_rule (wpAny_bind (wpAny_field hz rfl (x:=.ref TO) rfl (wpAny_bind (wpAny_setField_rec hz (by simp) fun g1 Lp e1=>wpAny_bind ?_)))))
 replace Lp:IsZip g1 z TI TO .ellipsis:=Lp
 simp only[List.zipIdx_cons,List.zipIdx_nil,List.forIn_cons,List.forIn_nil]
 refine wpAny_bind (wpAny_bind (wpAny_onRaise (wpAny_bind (m:=Builtin.SmallTypes.nextOf (.ref i1)) (D1.item i _ _ _ l1 (D1.rj PN W.z1 e1) fun x g2 PK hx Tp e2=>wpAny_pure ?_))))
 have ne1:i1≠z:=fun q=>W.z1 (q▸W.m1)
 have ne2:i2≠z:=fun q=>W.z2 (q▸W.m2)
 have Wc:TO≠i1:=fun q=>W.t1 (q▸W.m1)
 have Y8:TO≠i2:=fun q=>W.t2 (q▸W.m2)
 have Tq:IsPair g2 TO a b:=cy e2 Wc (cy e1 W.zt hO)
 refine wpAny_bind (wpAny_seqItems (s:={ s with heap:=g2,toks:=PK }) Tq rfl (wpAny_bind (wpAny_updateSeq_pair (s:={ s with heap:=g2,toks:=PK }) Tq fun g3 UM e3=>wpAny_bind (wpAny_letGo (wpAny_pure ?_)))))
 replace UM:IsPair g3 TO x b:=UM
 refine wpAny_bind (wpAny_bind (wpAny_onRaise (wpAny_bind (m:=Builtin.SmallTypes.nextOf (.ref i2)) (D2.item i _ _ _ l2 (D2.rj (D2.rj (D2.rj IU W.z2 e1) W.o1 e2) W.t2 e3) fun y g4 Tr hy Wf e4=>wpAny_pure ?_))))
 have XA:IsPair g4 TO x b:=cy e4 Y8 UM
 refine wpAny_bind (wpAny_seqItems (s:={ s with heap:=g4,toks:=Tr }) XA rfl (wpAny_bind (wpAny_updateSeq_pair (s:={ s with heap:=g4,toks:=Tr }) XA fun g5 UN e5=>wpAny_bind (wpAny_letGo (wpAny_pure (wpAny_pure ?_))))))
 replace UN:IsPair g5 TO x y:=UN
 have sz:g5.objs.size=s.heap.objs.size:=by rw[e5.1,e4.1,e3.1,e2.1,e1.1]
 have XB:IsZip g5 z TI TO .ellipsis:=cy e5 (Ne.symm W.zt) (cy e4 (Ne.symm ne2) (cy e3 (Ne.symm W.zt) (cy e2 (Ne.symm ne1) Lp)))
 have Y9:S1 (i+1) g5:=D1.rj (D1.rj (D1.rj Tp W.t1 e3) W.o2 e4) W.t1 e5
 have Za:S2 (i+1) g5:=D2.rj Wf W.t2 e5
 have k5:∀ c o,c≠z→c≠TO→c≠i1→c≠i2→s.heap.get? c=some o→g5.get? c=some o:=fun c o c1 c2 c3 c4 g=>cy e5 c2 (cy e4 c4 (cy e3 c2 (cy e2 c3 (cy e1 c1 g))))
 refine wpAny_bind (wpAny_seqItems (s:={ s with heap:=g5,toks:=Tr }) UN rfl (wpAny_bind (wpAny_newTuple ?_)))
 refine wpAny_bind (m:=Builtin.SmallTypes.ownedTupleHandOut (.ref z) (.ref g5.objs.size)) ?_
 have XC:z<g5.objs.size:=Heap.lt_size XB
 refine wpAny_bind (wpAny_setField_rec (s:={ s with heap:=g5.push { cls:=.type "tuple",data:=.seq #[x,y] },toks:=Tr }) (Heap.get?_push_of_some _ XB) (by simp) fun g7 Wg e7=>?_)
 replace Wg:IsZip g7 z TI TO (rawInt g5.objs.size):=Wg
 refine wpAny_setField_rec Wg (by simp) fun g8 UO e8=>?_
 replace UO:IsZip g8 z TI TO (rawInt g5.objs.size):=UO
 have up:∀ c o,c≠z→g5.get? c=some o→g8.get? c=some o:=fun c o c1 g=>cy e8 c1 (cy e7 c1 (Heap.get?_push_of_some _ g))
 have hT:IsPair g8 g5.objs.size x y:=cy e8 (Nat.ne_of_gt XC) (cy e7 (Nat.ne_of_gt XC) (Heap.get?_push_size _ rfl))
 rw[sz] at UO hT
 refine wpAny_pure ⟨_,rfl,?_⟩
 rw[sz]
 exact q g8 Tr x y hx hy UO (up _ _ W.zt UN) (D1.frame _ _ _ Y9 fun c hc o g=>up c o (fun q=>W.z1 (q▸hc)) g) (D2.frame _ _ _ Za fun c hc o g=>up c o (fun q=>W.z2 (q▸hc)) g) hT fun c o c1 c2 c3 c4 g=>up c o c1 (k5 c o c1 c2 c3 c4 g)
theorem NL {i:Nat}{a b:Value}{Q:Fin→Shared→Prop} (W:Ao z TI TO i1 i2 f1 f2) (D1:Draws prog w A i1 f1 n1 P1 S1) (D2:Draws prog w A i2 f2 n2 P2 S2) (he:i=n1∨(i<n1∧i=n2))
  (hz:IsZip s.heap z TI TO .none) (hI:IsPair s.heap TI (.ref i1) (.ref i2)) (hO:IsPair s.heap TO a b) (PN:S1 i s.heap) (IU:S2 i s.heap)
  (q:∀ h' tk e,(∀ c o,c≠z→c≠TO→c≠i1→c≠i2→s.heap.get? c=some o→h'.get? c=some o)→(∃ o,h'.get? e=some o∧o.cls=.type "StopIteration")→E (.ref e) { s with heap:=h',toks:=tk }) :
  wpAny (model prog w) A (Builtin.«zip.__next__» ⟨[.ref z],[]⟩) Q E s:=by
 have ne1:i1≠z:=fun q=>W.z1 (q▸W.m1)
 have ne2:i2≠z:=fun q=>W.z2 (q▸W.m2)
 have Wc:TO≠i1:=fun q=>W.t1 (q▸W.m1)
 refine wpAny_bind (m:=field (.ref z) 2) (wpAny_field hz rfl (x:=.bool false) rfl (wpAny_bind (m:=field (.ref z) 3) (wpAny_field hz rfl (x:=.ref TI) rfl (wpAny_bind (wpAny_seqItems hI rfl ?_)))))
 refine wpAny_bind (m:=Builtin.SmallTypes.ownedTupleIsFree (.ref z)) (wpAny_bind (wpAny_field hz rfl (x:=.none) rfl (wpAny_pure ?_)))
 simp only[if_true]
 refine wpAny_bind (wpAny_rule (wpAny_bind (wpAny_field hz rfl (x:=.ref TO) rfl (wpAny_bind (wpAny_setField_rec hz (by simp) fun g1 Lp e1=>wpAny_bind ?_)))))
 replace Lp:IsZip g1 z TI TO .ellipsis:=Lp
 simp only[List.zipIdx_cons,List.zipIdx_nil,List.forIn_cons,List.forIn_nil]
 have away:∀ {g:Heap}{e:Addr},IsZip g z TI TO .ellipsis→(∃ o,g.get? e=some o∧o.cls=.type "StopIteration")→e≠z:=fun hg ⟨o,ho,hc⟩ x=>by
  subst x
  rw[hg] at ho
  cases ho
  simp at hc
 refine wpAny_bind (wpAny_bind (wpAny_onRaise ?_))
 refine wpAny_bind (m:=Builtin.SmallTypes.nextOf (.ref i1)) ?_
 rcases he with rfl | ⟨lt,rfl⟩
 ·refine D1.done _ _ _ (D1.rj PN W.z1 e1) fun g2 e x2 hs=>?_
  have Wh:IsZip g2 z TI TO .ellipsis:=x2 _ _ (Ne.symm ne1) Lp
  have Wi:=away Wh hs
  obtain⟨o,ho,hc⟩:=hs
  exact wpAny_setField_rec Wh (by simp) fun g3 _ e3=>q g3 s.toks e (fun c o c1 _ c3 _ g=>cy e3 c1 (x2 _ _ c3 (cy e1 c1 g))) ⟨o,cy e3 Wi ho,hc⟩
 ·refine D1.item i _ _ _ lt (D1.rj PN W.z1 e1) fun x g2 PK hx Tp e2=>wpAny_pure ?_
  have Tq:IsPair g2 TO a b:=cy e2 Wc (cy e1 W.zt hO)
  refine wpAny_bind (wpAny_seqItems (s:={ s with heap:=g2,toks:=PK }) Tq rfl (wpAny_bind (wpAny_updateSeq_pair (s:={ s with heap:=g2,toks:=PK }) Tq fun g3 UM e3=>wpAny_bind (wpAny_letGo (wpAny_pure ?_)))))
  refine wpAny_bind (wpAny_bind (wpAny_onRaise ?_))
  refine wpAny_bind (m:=Builtin.SmallTypes.nextOf (.ref i2)) ?_
  refine D2.done _ _ _ (D2.rj (D2.rj (D2.rj IU W.z2 e1) W.o1 e2) W.t2 e3) fun g4 e x4 hs=>?_
  have XD:IsZip g4 z TI TO .ellipsis:=x4 _ _ (Ne.symm ne2) (cy e3 (Ne.symm W.zt) (cy e2 (Ne.symm ne1) Lp))
  have Wi:=away XD hs
  obtain⟨o,ho,hc⟩:=hs
  exact wpAny_setField_rec XD (by simp) fun g5 _ e5=>q g5 PK e (fun c o c1 c2 c3 c4 g=>cy e5 c1 (x4 _ _ c4 (cy e3 c2 (cy e2 c3 (cy e1 c1 g))))) ⟨o,cy e5 Wi ho,hc⟩
theorem Jz {i:Nat}{a b:Value}{Q:Option Value→Shared→Prop} (W:Ao z TI TO i1 i2 f1 f2) (D1:Draws prog w A.in1 i1 f1 n1 P1 S1) (D2:Draws prog w A.in1 i2 f2 n2 P2 S2) (l1:i<n1) (l2:i<n2)
  (hz:IsZip s.heap z TI TO .none) (hI:IsPair s.heap TI (.ref i1) (.ref i2)) (hO:IsPair s.heap TO a b) (PN:S1 i s.heap) (IU:S2 i s.heap)
  (q:∀ h' tk x y,P1 i x→P2 i y→IsZip h' z TI TO (rawInt s.heap.objs.size)→IsPair h' TO x y→S1 (i+1) h'→S2 (i+1) h'→IsPair h' s.heap.objs.size x y→(∀ c o,c≠z→c≠TO→c≠i1→c≠i2→s.heap.get? c=some o→h'.get? c=some o)→Q (some (.ref s.heap.objs.size)) { s with heap:=h',toks:=tk }) :
  wpAny (model prog w) A (pyNext (.ref z)) Q E s:=by
 have hT:s.TypeIs (.ref z) "zip" := ⟨_,hz,rfl⟩
 unfold pyNext
 exact wpAny_bind (wpAny_attempt (wpAny_callSpecial?_slot (name:=Str.ofString "__next__") hT F.slot_zip_next (wpAny_call_entry F.slot_zip_next hT F.entry_zip_next (Mm W D1 D2 l1 l2 hz hI hO PN IU fun h' tk x y a1 a2 a3 a4 a5 a6 a7 a8=>wpAny_pure (q h' tk x y a1 a2 a3 a4 a5 a6 a7 a8)) (F.args_zip_next_1 _))))
theorem Mn {i:Nat}{a b:Value}{Q:Option Value→Shared→Prop} (W:Ao z TI TO i1 i2 f1 f2) (D1:Draws prog w A.in1 i1 f1 n1 P1 S1) (D2:Draws prog w A.in1 i2 f2 n2 P2 S2) (he:i=n1∨(i<n1∧i=n2))
  (hz:IsZip s.heap z TI TO .none) (hI:IsPair s.heap TI (.ref i1) (.ref i2)) (hO:IsPair s.heap TO a b) (PN:S1 i s.heap) (IU:S2 i s.heap)
  (q:∀ h' tk,(∀ c o,c≠z→c≠TO→c≠i1→c≠i2→s.heap.get? c=some o→h'.get? c=some o)→Q none { s with heap:=h',toks:=tk }):wpAny (model prog w) A (pyNext (.ref z)) Q E s:=by
 have hT:s.TypeIs (.ref z) "zip" := ⟨_,hz,rfl⟩
 unfold pyNext
 refine wpAny_bind (wpAny_attempt (wpAny_callSpecial?_slot (name:=Str.ofString "__next__") hT F.slot_zip_next (wpAny_call_entry F.slot_zip_next hT F.entry_zip_next (NL W D1 D2 he hz hI hO PN IU fun h' tk e hk hs=>?_) (F.args_zip_next_1 _))))
 obtain⟨o,ho,hc⟩:=hs
 exact wpAny_bind (wpAny_isInstance (T := "StopIteration") (b:=true) ⟨o,ho,hc⟩ isSubtype_stop (wpAny_pure (q _ _ hk)))
def RV (l:Addr):Obj:={ cls:=.type "tuple_iterator",data:=.fields #[.ref l,.int 0 0] }
theorem JA (l1 l2:Addr) (xs ys:Array Value) :
  Meets (Builtin.«zip.__new__» ⟨[.type "zip",.ref l1,.ref l2],[]⟩) (fun _ R s=>s.heap.IsTuple l1 xs∧s.heap.IsTuple l2 ys ∧
   ∀ g1 g2 g3 g4 g5:Heap,g1=s.heap.push (RV l1)→g2=g1.push (RV l2)→g3=g2.push { cls:=.type "tuple",data:=.seq #[.ref s.heap.objs.size,.ref g1.objs.size] }→g4=g3.push { cls:=.type "tuple",data:=.seq #[.none,.none] } →
    g5=g4.push { cls:=.type "zip",data:=.fields #[.none,.bool false,.bool false,.ref g2.objs.size,.ref g3.objs.size] }→R (.ok (.ret (.ref g4.objs.size))) { s with heap:=g5 }) :=
 .of_wp fun prog w A R s h=>by
  obtain⟨hp,g,d,tk,os⟩:=s;obtain⟨h1,h2,h⟩:=h
  have V7:=sub_zip
  have hA:Heap.IsTuple (Shared.heap ⟨hp,g,d,tk,os⟩) l1 xs:=h1
  have hB:Heap.IsTuple (Shared.heap ⟨hp.push (RV l1),g,d,tk,os⟩) l2 ys:=Heap.IsTuple.push h2 _
  unfold RV at hB
  wp_walk using wpAny_pyIter_tuple hA,wpAny_pyIter_tuple hB
  exact⟨_,rfl,h _ _ _ _ _ rfl rfl rfl rfl rfl⟩
theorem Mp {l1 l2:Addr}{xs ys:Array Value}{Q:Value→Shared→Prop} (h1:s.heap.IsTuple l1 xs) (h2:s.heap.IsTuple l2 ys)
  (q:∀ h',IsZip h' (s.heap.objs.size+4) (s.heap.objs.size+2) (s.heap.objs.size+3) .none→IsPair h' (s.heap.objs.size+2) (.ref s.heap.objs.size) (.ref (s.heap.objs.size+1))→IsPair h' (s.heap.objs.size+3) .none .none →
   h'.IsTupleIter s.heap.objs.size l1 0→h'.IsTupleIter (s.heap.objs.size+1) l2 0→(∀ c o,s.heap.get? c=some o→h'.get? c=some o)→Q (.ref (s.heap.objs.size+4)) { s with heap:=h' }) :
  wpAny (model prog w) A (call (.type "zip") [.ref l1,.ref l2]) Q E s:=by
 refine callType_new F.called_zip (by decide) (F.typeCall_zip_2 _ _) (F.newCall_zip_2 _ _) (fun obj=>F.args_object_init_3 obj _ _) F.entry_zip_new (JA l1 l2 xs ys) ⟨h1,h2,?_⟩
 intro g1 g2 g3 g4 g5 e1 e2 e3 e4 e5
 have n1:g1.objs.size=s.heap.objs.size+1:=by rw[e1];exact Heap.size_push ..
 have n2:g2.objs.size=s.heap.objs.size+2:=by rw[e2,Heap.size_push,n1]
 have n3:g3.objs.size=s.heap.objs.size+3:=by rw[e3,Heap.size_push,n2]
 have n4:g4.objs.size=s.heap.objs.size+4:=by rw[e4,Heap.size_push,n3]
 have u1:∀ c o,s.heap.get? c=some o→g1.get? c=some o:=fun c o e=>by rw[e1];exact Heap.get?_push_of_some _ e
 have u2:∀ c o,g1.get? c=some o→g2.get? c=some o:=fun c o e=>by rw[e2];exact Heap.get?_push_of_some _ e
 have u3:∀ c o,g2.get? c=some o→g3.get? c=some o:=fun c o e=>by rw[e3];exact Heap.get?_push_of_some _ e
 have u4:∀ c o,g3.get? c=some o→g4.get? c=some o:=fun c o e=>by rw[e4];exact Heap.get?_push_of_some _ e
 have u5:∀ c o,g4.get? c=some o→g5.get? c=some o:=fun c o e=>by rw[e5];exact Heap.get?_push_of_some _ e
 have a1:g1.get? s.heap.objs.size=some (RV l1):=by rw[e1];exact Heap.get?_push_size _ rfl
 have a2:g2.get? g1.objs.size=some (RV l2):=by rw[e2];exact Heap.get?_push_size _ rfl
 have a3:g3.get? g2.objs.size=some { cls:=.type "tuple",data:=.seq #[.ref s.heap.objs.size,.ref g1.objs.size] }:=by rw[e3];exact Heap.get?_push_size _ rfl
 have a4:g4.get? g3.objs.size=some { cls:=.type "tuple",data:=.seq #[.none,.none] }:=by rw[e4];exact Heap.get?_push_size _ rfl
 have a5:g5.get? g4.objs.size=some { cls:=.type "zip",data:=.fields #[.none,.bool false,.bool false,.ref g2.objs.size,.ref g3.objs.size] }:=by rw[e5];exact Heap.get?_push_size _ rfl
 rw[n1] at a2 a3
 rw[n2] at a3 a5
 rw[n3] at a4 a5
 rw[n4] at a5
 show _∧_
 rw[n4]
 exact⟨⟨_,a5,rfl⟩,q g5 a5 (u5 _ _ (u4 _ _ a3)) (u5 _ _ a4) ⟨_,u5 _ _ (u4 _ _ (u3 _ _ (u2 _ _ a1))),rfl,rfl⟩ ⟨_,u5 _ _ (u4 _ _ (u3 _ _ a2)),rfl,rfl⟩ fun c o e=>u5 _ _ (u4 _ _ (u3 _ _ (u2 _ _ (u1 _ _ e))))⟩
end
end PySem
namespace L2
open PySem PySem.Spec PyProof.Rows
def Mq (a b:Addr):It :=
 ⟨fun i H=>∃ xs ys x y,Rd H a (.tup xs)∧Rd H b (.tup ys)∧xs[i]? = some x∧ys[i]? = some y,fun i H v H'=>∃ T x y,H T=none∧v=.ref T∧(∀ xs,Rd H a (.tup xs)→xs[i]? = some x)∧(∀ ys,Rd H b (.tup ys)→ys[i]? = some y)∧H'=upd H T (.tup [x,y]),
  fun i H=>∃ xs ys,Rd H a (.tup xs)∧Rd H b (.tup ys)∧i=min xs.length ys.length⟩
theorem Rd.one {H:Hp}{a:Addr}{xs ys:List V} (h1:Rd H a (.tup xs)) (h2:Rd H a (.tup ys)):xs=ys:=by
 rcases h1 with h1 | ⟨o,h1⟩<;>rcases h2 with h2 | ⟨o',h2⟩<;>(rw[h1] at h2;cases h2<;>rfl)
theorem Rd.ne {H:Hp}{a b:Addr}{u:HO} (h:Rd H a u) (n:H b=none):a≠b:=fun e=>by
 rcases h with h | ⟨o,h⟩<;>(rw[e,n] at h;cases h)
structure Ba (z TI TO i1 i2:Addr):Prop where
 tz:TO≠z
 kz:TI≠z
 kt:TI≠TO
 k1:TI≠i1
 k2:TI≠i2
 z1:i1≠z
 z2:i2≠z
 t1:TO≠i1
 t2:TO≠i2
 ii:i1≠i2
theorem Ba.of (n:Nat):Ba (n+4) (n+2) (n+3) n (n+1):=by constructor<;>(intro e;have e':(_:Nat)=_:=e;omega)
theorem Ba.away {z TI TO i1 i2 a b:Addr} (d:Ba z TI TO i1 i2) (ha:∀ c∈[z,TI,TO,i1,i2],a≠c) (hb:∀ c∈[z,TI,TO,i1,i2],b≠c):Ao z TI TO i1 i2 [i1,a] [i2,b] where
 zt:=d.tz
 kz:=d.kz
 kt:=d.kt
 k1:=d.k1
 k2:=d.k2
 z1:=by simp [Ne.symm d.z1,Ne.symm (ha z (by simp))]
 z2:=by simp [Ne.symm d.z2,Ne.symm (hb z (by simp))]
 t1:=by simp [d.t1,Ne.symm (ha TO (by simp))]
 t2:=by simp [d.t2,Ne.symm (hb TO (by simp))]
 m1:=by simp
 m2:=by simp
 o1:=by simp [d.ii,Ne.symm (hb i1 (by simp))]
 o2:=by simp [Ne.symm d.ii,Ne.symm (ha i2 (by simp))]
theorem Mr {P:Program}{w:World}{K:PySem.W.Frag}{elts:List Expr}{kk:Nat}{tp:Pos}{z TI TO i1 i2:Addr} (a b:Addr) (d:Ba z TI TO i1 i2):Turn P w K (.Tuple elts kk tp) (Mq a b) [z,TI,TO,i1,i2] z (fun i h=>IsZip h z TI TO .none∧IsPair h TI (.ref i1) (.ref i2)∧(∃ x y,IsPair h TO x y)∧h.IsTupleIter i1 a i∧h.IsTupleIter i2 b i) where
 mem:=by simp
 obj:=fun i h st c hc=>by
  obtain⟨hz,hI,⟨x,y,hO⟩,⟨o1,g1,c1,d1⟩,⟨o2,g2,c2,d2⟩⟩:=st
  simp only[List.mem_cons,List.not_mem_nil,or_false] at hc
  rcases hc with rfl | rfl | rfl | rfl | rfl
  ·exact⟨_,hz,fun v q=>by have q':Data.fields _=Data.cell v:=q;cases q'⟩
  ·exact⟨_,hI,fun v q=>by have q':Data.seq _ _=Data.cell v:=q;cases q'⟩
  ·exact⟨_,hO,fun v q=>by have q':Data.seq _ _=Data.cell v:=q;cases q'⟩
  ·exact⟨o1,g1,fun v q=>by rw[d1] at q;cases q⟩
  ·exact⟨o2,g2,fun v q=>by rw[d2] at q;cases q⟩
 keep:=fun i h h' st k=>by
  obtain⟨hz,hI,⟨x,y,hO⟩,h1,h2⟩:=st
  exact⟨k z (by simp) _ hz,k TI (by simp) _ hI,⟨x,y,k TO (by simp) _ hO⟩,h1.at fun o e=>k i1 (by simp) o e,h2.at fun o e=>k i2 (by simp) o e⟩
 item:=by
  intro X hP hw hK hc i pins s σ H E I hf st hg
  subst hP hw hK
  obtain⟨xs,ys,x,y,ha,hb,hx,hy⟩:=hg
  obtain⟨bF,rv,p,_⟩:=I.tuple (.inl ha)
  obtain⟨y4,UP,p2,_⟩:=I.tuple (.inl hb)
  obtain⟨u,hu,ru⟩:=rv.get hx
  obtain⟨v,hv,V2⟩:=UP.get hy
  have hA:X.A.handled=none:=I.ok.hd hc
  obtain⟨hz,hI,⟨x0,y0,hO⟩,h1,h2⟩:=id st
  have na:∀ c∈[z,TI,TO,i1,i2],a≠c:=fun c hc=>ha.ne (hf c hc).1
  have nb:∀ c∈[z,TI,TO,i1,i2],b≠c:=fun c hc=>hb.ne (hf c hc).1
  have li:i<bF.toArray.size:=by have:=(List.getElem?_eq_some_iff.mp hu).1;simpa using this
  have Zb:i<y4.toArray.size:=by have:=(List.getElem?_eq_some_iff.mp hv).1;simpa using this
  refine Jz (d.away na nb) (Draws.tup (by exact hA) i1 a (na i1 (by simp)) bF.toArray) (Draws.tup (by exact hA) i2 b (nb i2 (by simp)) y4.toArray) li Zb hz hI hO ⟨h1,p⟩ ⟨h2,p2⟩ fun h' tk u' v' Ts OM a3 a4 a5 a6 a7 a8=>?_
  have eu:u'=u:=by
   have q:bF.toArray[i]? = some u:=by simpa using hu
   rw[q] at Ts
   exact (Option.some.inj Ts).symm
  have ev:v'=v:=by
   have q:y4.toArray[i]? = some v:=by simpa using hv
   rw[q] at OM
   exact (Option.some.inj OM).symm
  subst eu ev
  refine⟨_,rfl,wpAny_letOwnedTupleGo_zip (s:={ s with heap:=h',toks:=tk }) a3 fun g Rb e'=>?_⟩
  have kp:∀ c o,c∉[z,TI,TO,i1,i2]→s.heap.get? c=some o→g.get? c=some o:=fun c o hc q=>by
   simp only[List.mem_cons,List.not_mem_nil,or_false,not_or] at hc
   exact cy e' hc.1 (a8 c o hc.1 hc.2.2.1 hc.2.2.2.1 hc.2.2.2.2 q)
  have nT:∀ c∈[z,TI,TO,i1,i2],c≠s.heap.objs.size:=fun c hc=>by
   have:∃ o,s.heap.get? c=some o:=by
    simp only[List.mem_cons,List.not_mem_nil,or_false] at hc
    rcases hc with rfl | rfl | rfl | rfl | rfl
    ·exact⟨_,hz⟩
    ·exact⟨_,hI⟩
    ·exact⟨_,hO⟩
    ·obtain⟨o,q,_⟩:=h1;exact⟨o,q⟩
    ·obtain⟨o,q,_⟩:=h2;exact⟨o,q⟩
   obtain⟨o,q⟩:=this
   exact Nat.ne_of_lt (Heap.lt_size q)
  have new:gj X.prog X.w (upd H s.heap.objs.size (.tup [x,y])) g s.heap.objs.size (.tup [x,y]) :=
   ⟨by show 2≤sizeLine;decide,[u',v'],.cons ru (.cons V2 .nil),_,cy e' (Ne.symm (nT z (by simp))) a7,rfl,_,rfl⟩
  refine⟨.ref s.heap.objs.size,_,I.Dm (ch:=[z,TI,TO,i1,i2]) (t':=tk) hf kp (Nat.le_refl _) new,rfl,⟨s.heap.objs.size,x,y,I.d4.fresh (Nat.le_refl _),rfl,fun GZ h=>by rw[←ha.one h];exact hx,fun mU h=>by rw[←hb.one h];exact hy,rfl⟩,?_,fun c hc=>?_⟩
  ·exact⟨Rb,cy e' d.kz (a8 _ _ d.kz d.kt d.k1 d.k2 hI),⟨_,_,cy e' d.tz a4⟩,a5.1.at fun o q=>cy e' d.z1 q,a6.1.at fun o q=>cy e' d.z2 q⟩
  ·rw[aF (nT c hc)];exact (hf c hc).1
 done:=by
  intro X hP hw hK hc i pins s σ H E I hf st hg
  subst hP hw hK
  obtain⟨xs,ys,ha,hb,hi⟩:=hg
  obtain⟨bF,rv,p,_⟩:=I.tuple (.inl ha)
  obtain⟨y4,UP,p2,_⟩:=I.tuple (.inl hb)
  have hA:X.A.handled=none:=I.ok.hd hc
  obtain⟨hz,hI,⟨x0,y0,hO⟩,h1,h2⟩:=id st
  have na:∀ c∈[z,TI,TO,i1,i2],a≠c:=fun c hc=>ha.ne (hf c hc).1
  have nb:∀ c∈[z,TI,TO,i1,i2],b≠c:=fun c hc=>hb.ne (hf c hc).1
  have e1:=rv.length
  have e2:=UP.length
  refine Mn (d.away na nb) (Draws.tup (by exact hA) i1 a (na i1 (by simp)) bF.toArray) (Draws.tup (by exact hA) i2 b (nb i2 (by simp)) y4.toArray) (i:=i) (by simp only[List.size_toArray];omega) hz hI hO ⟨h1,p⟩ ⟨h2,p2⟩ fun h' tk k1=>⟨rfl,I.Lm (ch:=[z,TI,TO,i1,i2]) (t':=tk) hf fun c o hc q=>?_⟩
  simp only[List.mem_cons,List.not_mem_nil,or_false,not_or] at hc
  exact k1 c o hc.1 hc.2.2.1 hc.2.2.2.1 hc.2.2.2.2 q
 self:=fun _ _ _ _ _ st h=>wpAny_pyIter_zip st.1 h
section
variable {X:Cx}
def iZipT (ta:TA):TI:=fun σ H R=>ta σ H fun vs H1=>∃ a b xs ys,vs=[.ref a,.ref b]∧Rd H1 a (.tup xs)∧Rd H1 b (.tup ys)∧R (Mq a b) H1
theorem O7 {a b:Expr}{ta:TA}{p pos:Pos}{elts:List Expr}{kk:Nat}{tp:Pos} (hg:Gl X "zip") (hm:X.mg "zip" = none) (ha:PA X [a,b] ta) (hs:starEach [a,b] X.env=[(false,eval a X.env),(false,eval b X.env)]:=by rfl) (Po:starEach [b] X.env=[(false,eval b X.env)]:=by rfl) :
  PI X (.Tuple elts kk tp) (.Call (.Name "zip" p) [a,b] [] pos) (iZipT ta):=by
 intro pins s σ H R I h
 refine Call_ (y1 I hg hm (show bootBuiltins "zip" = some (.type "zip") by decide +kernel) (PyProof.Rows.callWith_type1 (gZ (ha pos pins s σ H _ I h) fun us s1 ⟨vs,H1,I1,r1,q1⟩=>?_) (by rw[hs,Po]) (by rw[Po];rfl)))
 obtain⟨l1,l2,xs,ys,e,h1,h2,q⟩:=q1
 subst e
 cases r1 with
 | cons r rr =>
  cases rr with
  | cons r' rr =>
   cases rr
   cases r
   cases r'
   obtain⟨bF,rv,p,hz⟩:=I1.tuple (.inl h1)
   obtain⟨y4,UP,p2,Wh⟩:=I1.tuple (.inl h2)
   refine Mp p p2 fun h' hz hI hO g1 g2 kp=>wpAny_pyIter_zip hz ⟨s1.heap.objs.size+4,[s1.heap.objs.size+4,s1.heap.objs.size+2,s1.heap.objs.size+3,s1.heap.objs.size,s1.heap.objs.size+1],_,_,H1,rfl,I1.kept (t':=s1.toks) kp,Mr l1 l2 (Ba.of _),⟨hz,hI,⟨_,_,hO⟩,g1,g2⟩,fun c hc=>?_,q⟩
   ·have:s1.heap.objs.size≤c:=by
     simp only[List.mem_cons,List.not_mem_nil,or_false] at hc
     rcases hc with rfl | rfl | rfl | rfl | rfl
     ·exact Nat.le_add_right _ _
     ·exact Nat.le_add_right _ _
     ·exact Nat.le_add_right _ _
     ·exact Nat.le_refl _
     ·exact Nat.le_add_right _ _
    exact I1.IQ this (I1.d4.fresh this)
end
theorem Ms {X:Cx}{tg e:Expr}{w1 w2:TI} (h1:PI X tg e w1) (h2:PI X tg e w2):PI X tg e (fun σ H R=>w1 σ H R∨w2 σ H R):=fun pins s σ H R I h=>h.elim (h1 pins s σ H R I) (h2 pins s σ H R I)
theorem Mt {K:PySem.W.Frag}{a b:Addr}{xs ys:List V}{x0 x1:Str}{ix:List Nat}{ti:TT}{te:TE}{Q:VK}{σ:St}{H:Hp} (Pv:Nat→List V→Hp→Prop) (h0:Pv 0 [] H) (hl:∀ i zs H,Pv i zs H→Rd H a (.tup xs)∧Rd H b (.tup ys))
  (hs:∀ i x y zs H T (R:List V→Hp→Prop),xs[i]? = some x→ys[i]? = some y→Pv i zs H→H T=none→(∀ Tt H',Pv (i+1) Tt H'→R Tt H')→ti (some x::some y::ix.map fun j=>(σ[j]?).join) (upd H T (.tup [x,y])) fun b H3=>if b=true then te (some x::some y::ix.map fun j=>(σ[j]?).join) H3 fun v H4=>zs.length<sizeLine∧R (zs++[v]) H4 else R zs H3)
  (hd:∀ zs H,Pv (min xs.length ys.length) zs H→zs.length≤sizeLine∧∀ D,H D=none→Q (.ref D) (upd H D (.lst zs))) :
  ∃ W:Nat→Nat→List V→St→Hp→Prop,(∃ m,W 0 m [] (rm σ [x0,x1] ix) H)∧∀ i m zs σ' H,W i m zs σ' H →
   ((Mq a b).stop i H∧zs.length≤sizeLine∧∀ D,H D=none→Q (.ref D) (upd H D (.lst zs))) ∨
   ((Mq a b).go i H∧∀ x H',(Mq a b).IH i H x H'→gTup K 2 (gCons (gName 0) (gCons (gName 1) gNil)) x σ' H' fun σ2 H2=>ti σ2 H2 fun b H3=>if b=true then te σ2 H3 fun y H4=>zs.length<sizeLine∧∃ m',m'<m∧W (i+1) m' (zs++[y]) σ2 H4 else ∃ m',m'<m∧W (i+1) m' zs σ2 H3):=by
 refine⟨fun i m zs σ' H=>m=min xs.length ys.length-i∧i≤min xs.length ys.length∧(∃ o o',σ'=o::o'::ix.map fun j=>(σ[j]?).join)∧Pv i zs H,⟨_,rfl,Nat.zero_le _,⟨none,none,rfl⟩,h0⟩,?_⟩
 rintro i m zs σ' H ⟨rfl,hi,⟨o,o',rfl⟩,p⟩
 obtain⟨q1,q2⟩:=hl i zs H p
 by_cases qt:i<min xs.length ys.length
 ·have l1:i<xs.length:=by omega
  have l2:i<ys.length:=by omega
  refine .inr ⟨⟨xs,ys,xs[i],ys[i],q1,q2,by simp [l1],by simp [l2]⟩,fun v H' y=>?_⟩
  obtain⟨T,x,y,hT,rfl,hx,hy,rfl⟩:=y
  refine⟨T,[x,y],rfl,df.of ag,rfl,x,[y],rfl,y,[],rfl,rfl,?_⟩
  exact hs i x y zs H T (fun Tt H4=>∃ m',m'<min xs.length ys.length-i∧m'=min xs.length ys.length-(i+1)∧i+1≤min xs.length ys.length∧(∃ o o',(some x::some y::ix.map fun j=>(σ[j]?).join)=o::o'::ix.map fun j=>(σ[j]?).join)∧Pv (i+1) Tt H4) (hx xs q1) (hy ys q2) p hT
   fun Tt H4 z=>⟨min xs.length ys.length-(i+1),by omega,rfl,by omega,⟨_,_,rfl⟩,z⟩
 ·have e:i=min xs.length ys.length:=by omega
  subst e
  exact .inl ⟨⟨xs,ys,q1,q2,rfl⟩,hd zs H p⟩
end L2
namespace HT
open PySem PySem.Spec PyProof.Rows
section
variable {prog:Program}{w:World}{A:Around}{E:Value→Shared→Prop}{s:Shared}
theorem Ap {t sl:Addr}{items:Array Value}{vl vu:Value}{lo hi:Option Int}{Q:Value→Shared→Prop} (ht:IsTup s.heap t items) (hs:s.heap.IsSliceOf sl vl vu .none) (pl:IsPart vl lo) (pu:IsPart vu hi)
  (hw:kr items.size 0 lo=0∧kr items.size items.size hi=items.size) (h:Q (.ref t) s):wpAny (model prog w) A (getItem (.ref t) (.ref sl)) Q E s:=by
 obtain⟨os,Qx,UE,SE⟩:=id hs
 have Vu:s.TypeIs (.ref sl) "slice" := ⟨os,Qx,UE⟩
 unfold getItem
 try with_reducible refine wpAny_holding ?_
 first | refine wpAny_bind (wpAny_pure ?_) | skip
 refine wpAny_bind (wpAny_sequenceKey ht.typeIs (by decide) ?_)
 refine wpAny_bind (wpAny_callSpecial?_slot (name:=Str.ofString "__getitem__") ht.typeIs PyProof.Rows.slot_tuple_getitem
  (wpAny_call_entry PyProof.Rows.slot_tuple_getitem ht.typeIs entry_tuple_getitem ?_ (args_tuple_getitem _ _)))
 show wpAny _ _ (Builtin.Tuple.tupleItemsOf (.ref t) >>= _) _ _ s
 refine wpAny_bind (tupleItemsOf_ ht ?_)
 refine wpAny_bind (wpAny_typeOf Vu ?_)
 rw[if_pos (by decide)]
 refine wpAny_bind (uG hs pl pu ?_)
 have Wj:(((kr items.size 0 lo:Nat):Int)==0&&(1:Int)==1&&(kr items.size items.size hi-kr items.size 0 lo)==items.size)=true:=by
  rw[hw.1,hw.2]
  simp
 show wpAny _ _ (if (((kr items.size 0 lo:Nat):Int)==0&&(1:Int)==1&&(kr items.size items.size hi-kr items.size 0 lo)==items.size)=true then _ else _) _ _ s
 rw[if_pos Wj]
 refine wpAny_bind (m:=Builtin.Tuple.tupleIsExact (.ref t)) ?_
 refine wpAny_bind (wpAny_typeOf ht.typeIs (wpAny_pure ?_))
 rw[if_pos (by decide)]
 exact wpAny_bind (wpAny_rule (wpAny_pure ⟨_,rfl,wpAny_pure h⟩))
end
end HT
namespace L2
open PySem PySem.Spec PyProof.Rows
def rSlTa (K:PySem.W.Frag):V→Option Int→Option Int→Hp→VK→Prop:=fun x lo hi H Q=>∃ a xs,x=.ref a∧df K H a xs ∧
 ((HT.kr xs.length 0 lo=0∧HT.kr xs.length xs.length hi=xs.length)→Q (.ref a) H)∧(¬ (HT.kr xs.length 0 lo=0∧HT.kr xs.length xs.length hi=xs.length)→∀ p,H p=none→Q (.ref p) (upd H p (.tup (tP xs lo hi))))
theorem FZ {X:Cx}:Pr X (rSlTa X.K):=by
 intro pins s σ H x v vl vu lo hi sl Q I rx hs pl pu h
 obtain⟨a,xs,rfl,hx,q1,q2⟩:=h
 by_cases hw:HT.kr xs.length 0 lo=0∧HT.kr xs.length xs.length hi=xs.length
 ·cases rx
  obtain⟨bF,r,ht,hz⟩:=I.tuple hx
  have hlen:bF.toArray.size=xs.length:=by rw[List.size_toArray];exact r.length.symm
  refine⟨"tuple",_,PyProof.Rows.slot_tuple_getitem.lookup,ht.typeIs,?_⟩
  exact HT.Ap ht hs pl pu (by rw[hlen];exact hw) ⟨.ref a,H,I,rfl,q1 hw⟩
 ·exact Qy pins s σ H _ v vl vu lo hi sl Q I rx hs pl pu ⟨a,xs,rfl,hx,hw,q2 hw⟩
end L2
namespace L2
open PySem PySem.Spec PyProof.Rows
section
variable {X:Cx}
def rCount (K:PySem.W.Frag):V→List V→Hp→VK→Prop:=fun x vs H Q=>∃ l xs y,x=.ref l∧vs=[y]∧bA K H l xs∧rl y=true∧xs.all rl=true∧Q (.int ((xs.countP fun z=>Lb z y:Nat):Int)) H
theorem NM:SG X "list.count" (rCount X.K):=by
 intro pins s σ H x vs v us Q I rx rv h
 obtain⟨t,xs,y,rfl,rfl,hq,fy,fs,q⟩:=h
 cases rx
 obtain⟨u,rfl,ru⟩:=rv.one
 obtain⟨bF,r,p,hz⟩:=I.list hq
 obtain⟨⟨oc,od,Wb,LW⟩,ho,hc,n,hd⟩:=p.isList
 replace hc:oc=.type "list" := hc
 replace hd:Wb=.seq bF.toArray n:=hd
 subst hc hd
 refine call_meets F.slot_list_count ⟨_,ho,rfl⟩ F.entry_list_count (F.args_list_count_2 _ _) (SeqAt.list_countAt t bF.toArray n od LW u (MG y)) ⟨ho,fun w hw=>wN ru fy r fs w (by simpa using hw),?_⟩
 refine⟨.int _,H,I.tok _,⟨_,rfl⟩,?_⟩
 rw[show bF.toArray.toList=bF by simp,A9 r fs]
 exact q
def rInD (K:PySem.W.Frag):R2:=fun x y H Q=>∃ p xs d ds,y=.ref p∧bA K H p xs∧uZ K H x d∧nL K H xs ds∧SeqAt.shaped d=true∧(∀ e∈ds,SeqAt.shaped e=true)∧Q (.bl (ds.any fun e=>PyData.eqv e d)) H
inductive UQ {α β:Type} (R:α→β→Prop):List α→List β→Prop
 | nil:UQ R [] []
 | cons {a:α}{b:β}{as:List α}{bs:List β}:R a b→UQ R as bs→UQ R (a::as) (b::bs)
theorem nL.reads {pins:List (Addr×Obj)}{σ:St}{H:Hp}{s:Shared} (I:Inv X pins σ H s):∀ {xs:List V}{ds:List PyData},nL X.K H xs ds→(∀ e∈ds,SeqAt.shaped e=true)→∀ us,Vals xs us→UQ (fun u d=>(∃ as,Reads s.heap u d as)∧SeqAt.shaped d=true) us ds
 | _,_,.nil,_,_,.nil=>.nil
 | _,_,.cons h1 h2,f,_,.cons r1 r2=>.cons ⟨h1.reads I _ r1,f _ List.mem_cons_self⟩ (nL.reads I h2 (fun e he=>f e (List.mem_cons_of_mem _ he)) _ r2)
end
end L2
namespace SH
open PySem L2
theorem O8 {xs:List V}{n:Nat} (h1:0<n) (h2:n≤xs.length):tP xs none (some (-(n:Int)))=xs.take (xs.length-n):=by
 unfold tP HT.kr
 simp only[List.drop_zero]
 rw[if_pos (by omega),show (-(n:Int)+(xs.length:Int)).toNat-0=xs.length-n by omega]
theorem Mu {xs:List V}{n:Nat} (h1:0<n) (h2:n≤xs.length):tP xs (some (-(n:Int))) none=xs.drop (xs.length-n):=by
 unfold tP HT.kr
 simp only[]
 rw[if_pos (by omega),show (-(n:Int)+(xs.length:Int)).toNat=xs.length-n by omega]
 exact List.take_of_length_le (by rw[List.length_drop];omega)
end SH
namespace L2
open PySem PySem.Spec PyProof.Rows
theorem JB {K:PySem.W.Frag}{a:Addr}{xs:List V}{x0 x1:Str}{ix:List Nat}{ti:TT}{te:TE}{Q:VK}{σ:St}{H:Hp} (Pv:Nat→List V→Hp→Prop) (h0:Pv 0 [] H) (hl:∀ i ys H,i≤xs.length→Pv i ys H→bA K H a xs)
  (hs:∀ i x ys H,xs[i]? = some x→Pv i ys H→∃ T u v,x=.ref T∧df K H T [u,v]∧∀ R:List V→Hp→Prop,(∀ mU H',Pv (i+1) mU H'→R mU H')→ti (some u::some v::ix.map fun j=>(σ[j]?).join) H fun b H3=>if b=true then te (some u::some v::ix.map fun j=>(σ[j]?).join) H3 fun y H4=>ys.length<sizeLine∧R (ys++[y]) H4 else R ys H3)
  (hd:∀ ys H,Pv xs.length ys H→ys.length≤sizeLine∧∀ D,H D=none→Q (.ref D) (upd H D (.lst ys))) :
  ∃ W:Nat→Nat→List V→St→Hp→Prop,(∃ m,W 0 m [] (rm σ [x0,x1] ix) H)∧∀ i m ys σ' H,W i m ys σ' H →
   ((G7 K a).stop i H∧ys.length≤sizeLine∧∀ D,H D=none→Q (.ref D) (upd H D (.lst ys))) ∨
   ((G7 K a).go i H∧∀ x H',(G7 K a).IH i H x H'→gTup K 2 (gCons (gName 0) (gCons (gName 1) gNil)) x σ' H' fun σ2 H2=>ti σ2 H2 fun b H3=>if b=true then te σ2 H3 fun y H4=>ys.length<sizeLine∧∃ m',m'<m∧W (i+1) m' (ys++[y]) σ2 H4 else ∃ m',m'<m∧W (i+1) m' ys σ2 H3):=by
 refine⟨fun i m ys σ' H=>m=xs.length-i∧i≤xs.length∧(∃ o o',σ'=o::o'::ix.map fun j=>(σ[j]?).join)∧Pv i ys H,⟨xs.length,by simp,Nat.zero_le _,⟨none,none,rfl⟩,h0⟩,?_⟩
 rintro i m ys σ' H ⟨rfl,hi,⟨o,o',rfl⟩,p⟩
 have q:=hl i ys H hi p
 by_cases qt:i<xs.length
 ·refine .inr ⟨⟨xs,xs[i],q,by simp [qt]⟩,fun x H' y=>?_⟩
  obtain⟨e,y⟩:=y
  subst e
  obtain⟨T,u,v,rfl,hT,h⟩:=hs i x ys _ (y xs q) p
  exact⟨T,[u,v],rfl,hT,rfl,u,[v],rfl,v,[],rfl,rfl,h (fun mU H4=>∃ m',m'<xs.length-i∧m'=xs.length-(i+1)∧i+1≤xs.length∧(∃ o o',(some u::some v::ix.map fun j=>(σ[j]?).join)=o::o'::ix.map fun j=>(σ[j]?).join)∧Pv (i+1) mU H4)
   fun mU H4 z=>⟨xs.length-(i+1),by omega,rfl,qt,⟨_,_,rfl⟩,z⟩⟩
 ·have e:i=xs.length:=by omega
  subst e
  exact .inl ⟨⟨xs,q,Nat.le_refl _⟩,hd ys H p⟩
theorem HR {K:PySem.W.Frag}{a:Addr}{xs:List V}{x0 x1:Str}{ix:List Nat}{wi:TI}{ti:TT}{te:TE}{Q:VK}{σ:St}{H H1:Hp} (hi:∀ R:It→Hp→Prop,R (G7 K a) H1→wi σ H R) (Pv:Nat→List V→Hp→Prop) (h0:Pv 0 [] H1) (hl:∀ i ys H,i≤xs.length→Pv i ys H→bA K H a xs)
  (hs:∀ i x ys H,xs[i]? = some x→Pv i ys H→∃ T u v,x=.ref T∧df K H T [u,v]∧∀ R:List V→Hp→Prop,(∀ mU H',Pv (i+1) mU H'→R mU H')→ti (some u::some v::ix.map fun j=>(σ[j]?).join) H fun b H3=>if b=true then te (some u::some v::ix.map fun j=>(σ[j]?).join) H3 fun y H4=>ys.length<sizeLine∧R (ys++[y]) H4 else R ys H3)
  (hd:∀ ys H,Pv xs.length ys H→ys.length≤sizeLine∧∀ D,H D=none→Q (.ref D) (upd H D (.lst ys))):sT [x0,x1] ix wi (gTup K 2 (gCons (gName 0) (gCons (gName 1) gNil))) ti te σ H Q:=hi _ (JB Pv h0 hl hs hd)
theorem Dp {K:PySem.W.Frag}{x0:Str}{ix:List Nat}{wi:TI}{g:TG}{ti:TT}{te:TE}{Q:VK}{σ:St}{H:Hp} (S:Addr→Hp→Prop) (hi:∀ R:It→Hp→Prop,(∀ a H1,S a H1→R (MX K a) H1)→wi σ H R) (h:∀ a H1,S a H1→sT [x0] ix (fun _ _ R=>R (MX K a) H1) g ti te σ H Q):sT [x0] ix wi g ti te σ H Q:=hi _ h
theorem HS {K:PySem.W.Frag}{x0:Str}{ix:List Nat}{wi:TI}{g:TG}{ti:TT}{te:TE}{Q:VK}{σ:St}{H:Hp} (S:Addr→Hp→Prop) (hi:∀ R:It→Hp→Prop,(∀ a H1,S a H1→R (G7 K a) H1)→wi σ H R) (h:∀ a H1,S a H1→sT [x0] ix (fun _ _ R=>R (G7 K a) H1) g ti te σ H Q):sT [x0] ix wi g ti te σ H Q:=hi _ h
theorem Fm {c:TT}{t u:TS}{D:Ends}{σ:St}{H:Hp} (P:Bool→Hp→Prop) (hc:∀ G:Bool→Hp→Prop,(∀ b H1,P b H1→G b H1)→c σ H G) (ht:∀ H1,P true H1→t D σ H1) (hu:∀ H1,P false H1→u D σ H1):tIfS c t u D σ H:=hc _ fun b H1 p=>by
 cases b with
 | true=>rw[if_pos rfl];exact ht H1 p
 | false=>rw[if_neg (by decide)];exact hu H1 p
end L2
namespace L2
open PySem PySem.Spec PyProof.Rows
structure kD (N:List Str) (SM scope:Scope) (x0:Str) (cap:List Str) (ix:List Nat):Prop where
 kind:scope.kind=.function
 lay:∀ (n:Nat) (acc:List (Str×Addr)),cellsFrom n scope.names acc=(x0,n)::acc
 push:∀ h:Heap,pushCells h scope.names=h.push { cls:=.type "cell",data:=.cell none }
 Tv:∀ y∈scope.names,y.2=.cell→y.1=x0
 names:∀ y∈scope.names,y.2=.local→scope.names.lookup y.1=some .local
 free:∀ y∈scope.names,y.2=.free→y.1∈cap
 FN:∀ x∈cap,scope.names.lookup x=some .free
 out:∀ x∈cap,SM.names.lookup x=some .cell∨SM.names.lookup x=some .free
 QK:ix.map (fun i=>N[i]?)=cap.map some
 nd:(x0::cap).Nodup
def Cx.iA (X:Cx) (scope:Scope) (x0:Str) (cap:List Str) (C c0:Addr) (s₀:Shared) (H₀:Hp) (ex:List Addr) (pn:List (Addr×Obj)):Cx :=
 { X with N:=x0::cap,s₀:=s₀,H₀:=H₀,env:=compEnvC scope ((x0,c0)::nK X.env scope.names []) C X.env,outer:=X.stack,ex:=ex,fn:=fun x=>x==x0,pn:=pn,xe:=fun _ _=>False }
theorem wz {M:Model}{A:Around}{E:Value→Shared→Prop}{s:Shared}{scope:Scope}{globals:Addr}{closure:List (Str×Addr)}{qual:Str}{func:Option Addr}{code:Value}{outer:Env}{builtins:Addr}{Q:Env→Shared→Prop}{x0:Str}
  (lay:∀ (n:Nat) (acc:List (Str×Addr)),cellsFrom n scope.names acc=(x0,n)::acc) (push:∀ h:Heap,pushCells h scope.names=h.push { cls:=.type "cell",data:=.cell none })
  (hQ:∀ h',h'=(s.heap.push { cls:=.type "dict",data:=.dict #[] }).push { cls:=.type "cell",data:=.cell none } →
   Q (newEnv scope s.heap.objs.size globals ((x0,s.heap.objs.size+1)::closure) qual func code (some outer) builtins) { s with heap:=h' }) :
  wpAny M A (newFunctionEnv scope globals closure [] qual func code (some outer) builtins) Q E s:=by
 simp only[newFunctionEnv,Option.isSome_some,if_true]
 refine wpAny_bind (wpAny_alloc ?_)
 refine wpAny_bind (wpAny_layCells _ (fun name kind cells=>by cases Zc:kind==NameKind.cell<;>simp [Zc]) _ _ _ _ ?_)
 rw[lay,push]
 refine wpAny_bind ?_
 rw[List.forIn_nil]
 refine wpAny_pure (wpAny_pure ?_)
 have q:=hQ _ rfl
 rw[show ({ s with heap:=s.heap.push { cls:=.type "dict",data:=.dict #[] } }:Shared).heap.objs.size=s.heap.objs.size+1 from Heap.size_push ..]
 exact q
section
variable {X:Cx}{pins:List (Addr×Obj)}{σ:St}{H:Hp}{s:Shared}{scope:Scope}{x0:Str}{cap:List Str}{ix:List Nat}
theorem kD.has (S:kD X.N X.env.scope scope x0 cap ix) (ok:X.Ok):∀ y∈scope.names,y.2=.free→∃ c,X.env.cells.lookup y.1=some c:=fun y hy hf=>ok.has y.1 (S.out y.1 (S.free y hy hf))
theorem kD.cv {c0:Addr}{x:Str}{c:Addr} (S:kD X.N X.env.scope scope x0 cap ix) (has:∀ y∈scope.names,y.2=.free→∃ c,X.env.cells.lookup y.1=some c) (e:((x0,c0)::nK X.env scope.names []).lookup x=some c) :
  (x=x0∧c=c0)∨(x≠x0∧X.env.cells.lookup x=some c∧x∈cap):=by
 rw[List.lookup_cons] at e
 cases h:(x==x0) with
 | true=>rw[h] at e;exact .inl ⟨eq_of_beq h,(Option.some.inj e).symm⟩
 | false =>
  rw[h] at e
  refine .inr ⟨fun z=>?_,Ag has (fun q=>by simp at q) e,?_⟩
  ·rw[z,beq_self_eq_true] at h;cases h
  ·rcases C9 e with q | q
   ·cases q
   ·exact S.free _ q rfl
theorem Inv.iA (I:Inv X pins σ H s) (S:kD X.N X.env.scope scope x0 cap ix) {fp:List Addr} (hf:∀ b∈fp,Ab X pins H b) (ho:∀ b∈fp,∃ o,s.heap.get? b=some o)
  {h₁:Heap}{tk:Nat}{C c0:Addr}{m:Str→Option Value} (hC:s.heap.objs.size≤C) (Lq:s.heap.objs.size≤c0) (hCc:c0≠C) (old:∀ b o,s.heap.get? b=some o→h₁.get? b=some o) (RP:h₁.Ns C m) (Rc:∃ v,h₁.IsCell c0 v) :
  Inv (X.iA scope x0 cap C c0 s H fp (X.pn++pins)) [] (rm σ [x0] ix) H { s with heap:=h₁,toks:=tk }:=by
 have cv:∀ x c,((x0,c0)::nK X.env scope.names []).lookup x=some c→(x=x0∧c=c0)∨(x≠x0∧X.env.cells.lookup x=some c∧x∈cap):=fun x c e=>S.cv (S.has I.ok) e
 have XE:∀ x c,X.env.cells.lookup x=some c→c<s.heap.objs.size:=fun x c e=>by obtain⟨v,q⟩:=I.cell x c e;exact q.lt
 have kk:∀ x,((compEnvC scope ((x0,c0)::nK X.env scope.names []) C X.env).kindOf x=some .cell∨(compEnvC scope ((x0,c0)::nK X.env scope.names []) C X.env).kindOf x=some .free)→x=x0∨x∈cap:=fun x hx=>by
  cases e:scope.names.lookup x with
  | none =>
   have q:=uY (env:=X.env) e
   rcases hx with hx | hx
   ·have z4:_=some NameKind.cell:=hx
    exact nomatch q.symm.trans z4
   ·have z4:_=some NameKind.free:=hx
    exact nomatch q.symm.trans z4
  | some k =>
   rcases jx (env:=X.env) e with q | ⟨q,_⟩
   ·rcases hx with hx | hx
    ·have z4:_=some NameKind.cell:=hx
     exact .inl (S.Tv _ (lookup_mem e) (Option.some.inj (q.symm.trans z4)))
    ·have z4:_=some NameKind.free:=hx
     exact .inr (S.free _ (lookup_mem e) (Option.some.inj (q.symm.trans z4)))
   ·exact .inr (S.free _ (lookup_mem e) q)
 have XF:x0∉cap:=(List.nodup_cons.mp S.nd).1
 have Zd:((x0,c0)::nK X.env scope.names []).lookup x0=some c0:=by rw[List.lookup_cons,beq_self_eq_true]
 have XG:∀ x,x∈cap→((x0,c0)::nK X.env scope.names []).lookup x=(nK X.env scope.names []).lookup x:=fun x hx=>by
  have ne:(x==x0)=false:=by
   cases h:(x==x0) with
   | false=>rfl
   | true=>exact absurd (by rw[←eq_of_beq h];exact hx) XF
  rw[List.lookup_cons,ne]
 have QL:∀ x∈cap,(compEnvC scope ((x0,c0)::nK X.env scope.names []) C X.env).kindOf x=some .cell∨(compEnvC scope ((x0,c0)::nK X.env scope.names []) C X.env).kindOf x=some .free:=fun x hx=>by
  rcases jx (env:=X.env) (S.FN x hx) with q | ⟨_,q⟩
  ·exact .inr q
  ·exact .inl q
 have lt:∀ {b:Addr}{o:Obj},s.heap.get? b=some o→b≠C:=fun e=>Nat.ne_of_lt (Nat.lt_of_lt_of_le (Heap.lt_size e) hC)
 have Le:∀ b,b∈uD X.stack→b∈X.env.locals::X.fs:=I.wG
 refine⟨⟨I.ok.mod,S.kind,I.ok.glob,I.ok.blt,hC,fun x y c e1 e2=>?_,fun x hx=>?_,fun x c hx e=>?_,I.ok.hd,I.ok.frames,.inl rfl,fun b hb=>?_,
  I.bs,Nat.le_trans I.ok.KZ I.sz,fun b o e hb=>?_,fun b hb VE=>?_,I.stack,I.CM⟩,rfl,I.bare,Un.kept old,?_,fun x c e=>?_,I.d4.fresh hC,fun x c e=>?_,fun p hp=>?_,I.d4.kept old,?_⟩
 ·rcases cv x c e1 with ⟨a1,b1⟩ | ⟨a1,b1,d1⟩
  ·rcases cv y c e2 with ⟨a2,b2⟩ | ⟨a2,b2,d2⟩
   ·rw[a1,a2]
   ·exact absurd (XE y c b2) (by rw[b1];exact Nat.not_lt.mpr Lq)
  ·rcases cv y c e2 with ⟨a2,b2⟩ | ⟨a2,b2,d2⟩
   ·exact absurd (XE x c b1) (by rw[b2];exact Nat.not_lt.mpr Lq)
   ·exact I.ok.inj x y c b1 b2
 ·rcases kk x hx with z | z
  ·rw[z];exact⟨c0,Zd⟩
  ·obtain⟨c',LJ⟩:=wO (env:=X.env) (x:=x) (l:=scope.names) (acc:=[]) (.inr (lookup_mem (S.FN x z)))
   exact⟨c',(XG x z).trans LJ⟩
 ·have h1:x=x0:=eq_of_beq hx
  rcases cv x c e with ⟨_,z⟩ | ⟨z,_⟩
  ·rw[z];exact Lq
  ·exact absurd h1 z
 ·obtain⟨o,e⟩:=ho b hb
  refine⟨lt e,fun x c q=>?_⟩
  rcases cv x c q with ⟨_,z⟩ | ⟨_,z,_⟩
  ·rw[z];exact fun y=>Nat.lt_irrefl _ (Nat.lt_of_lt_of_le (Heap.lt_size e) (by rw[←y];exact Lq))
  ·exact (hf b hb).2.2.2.2.1 x c z
 ·rcases (hf b hb).2.2.2.1 with z | z
  ·exact I.ok.IP b o e z
  ·exact absurd (Nat.lt_of_lt_of_le (Heap.lt_size e) (Nat.le_trans I.ok.KZ z)) (Nat.lt_irrefl _)
 ·rcases List.mem_cons.mp (Le b VE) with z | z
  ·exact (hf b hb).2.1 z
  ·exact (hf b hb).2.2.1 z
 ·refine⟨m,RP,fun i x v e1 e2 _=>?_⟩
  by_cases hi:i<1
  ·have e3:(rm σ [x0] ix)[i]? = some none:=by
    have:i=0:=by omega
    subst this
    rfl
   rw[e3] at e2;cases e2
  ·have hj:1≤i:=Nat.not_lt.mp hi
   have SO:cap[i-1]? = some x:=by
    have:([x0]++cap)[i]? = some x:=e1
    rwa [List.getElem?_append_right (by simpa using hj)] at this
   have e4:(ix.map (fun i=>X.N[i]?))[i-1]? = some (some x):=by rw[S.QK,List.getElem?_map,SO];rfl
   rw[List.getElem?_map] at e4
   cases q:ix[i-1]? with
   | none=>rw[q] at e4;cases e4
   | some j =>
    rw[q] at e4
    have VF:X.N[j]? = some x:=Option.some.inj e4
    have e5:(σ[j]?).join=some v:=by
     unfold rm at e2
     rw[List.getElem?_append_right (by simpa using hj),List.getElem?_map] at e2
     have e2:Option.map (fun i=>(σ[i]?).join) ix[i-1]? = some (some v):=e2
     rw[q] at e2
     exact Option.some.inj e2
    have e6:σ[j]? = some (some v):=by
     cases r:σ[j]? with
     | none=>rw[r] at e5;cases e5
     | some z=>rw[r] at e5;exact congrArg some e5
    have hx:x∈cap:=List.mem_of_getElem? SO
    obtain⟨mo,hn,hl⟩:=I.loc
    obtain⟨u,ru,lu⟩:=hl j x v VF e6 (.inr (S.out x hx))
    refine⟨u,ru,.inr ⟨QL x hx,?_⟩⟩
    rcases lu with ⟨kx,_⟩ | ⟨_,c,hc,BQ⟩
    ·have SQ : X.env.scope.names.lookup x = some .local := kx
     rcases S.out x hx with z | z
     ·exact nomatch SQ.symm.trans z
     ·exact nomatch SQ.symm.trans z
    ·obtain⟨c',LJ⟩:=wO (env:=X.env) (x:=x) (l:=scope.names) (acc:=[]) (.inr (lookup_mem (S.FN x hx)))
     have Tw:=(XG x hx).trans LJ
     rcases cv x c' Tw with ⟨z,_⟩ | ⟨_,z,_⟩
     ·exact absurd (by rw[←z];exact hx) XF
     ·have:c'=c:=Option.some.inj (z.symm.trans hc)
      subst this
      obtain⟨oc,E3,OU⟩:=BQ
      exact⟨c',Tw,oc,old _ _ E3,OU⟩
 ·rcases cv x c e with ⟨_,z⟩ | ⟨_,z,_⟩
  ·rw[z];exact Rc
  ·obtain⟨v,oc,E3,OU⟩:=I.cell x c z
   exact⟨v,oc,old _ _ E3,OU⟩
 ·rcases cv x c e with ⟨_,z⟩ | ⟨_,z,_⟩
  ·rw[z];exact I.d4.fresh Lq
  ·exact I.uF x c z
 ·have yK:p∈X.pn++pins:=by simpa [Cx.iA] using hp
  obtain⟨q1,q2,q3,q4,q5⟩:=I.pin p yK
  refine⟨old _ _ q1,q2,lt q1,fun z=>?_,q5⟩
  rcases List.mem_cons.mp (Le p.1 z) with y | y
  ·exact q3 y
  ·exact q4 y
 ·show (rm σ [x0] ix).length=(x0::cap).length
  have:=congrArg List.length S.QK
  rw[List.length_map,List.length_map] at this
  unfold rm
  rw[List.length_append,List.length_map,List.length_map,this,List.length_singleton,List.length_cons]
  exact Nat.add_comm _ _
end
section
variable {X:Cx}{pins:List (Addr×Obj)}{σ:St}{scope:Scope}{x0:Str}{cap:List Str}{ix:List Nat}{tg iter elt:Expr}{ifs:List Expr}{pos:Pos}
set_option maxHeartbeats 4000000 in
theorem HU {s:Shared}{H:Hp}{it:Addr}{fp:List Addr}{tn:Nat→Heap→Prop}{J:It}{g:TG}{ti:TT}{te:TE}{Q:VK}{W:Nat→Nat→List V→St→Hp→Prop}{E:Value→Shared→Prop}{RR:Value→Addr→Result→Shared→Prop} (hc:X.calm=true)
  (I:Inv X pins σ H s) (S:kD X.N X.env.scope scope x0 cap ix) (T:Turn X.prog X.w X.K tg J fp it tn) (st:tn 0 s.heap) (hf:∀ b∈fp,Ab X pins H b)
  (hb:∀ (C c0:Addr) (s₀:Shared) (H₀:Hp) (ex:List Addr) (pn:List (Addr×Obj)),PG (X.iA scope x0 cap C c0 s₀ H₀ ex pn) tg g∧Hj (X.iA scope x0 cap C c0 s₀ H₀ ex pn) ifs ti∧PE (X.iA scope x0 cap C c0 s₀ H₀ ex pn) elt te)
  (h0:∃ m,W 0 m [] (rm σ [x0] ix) H)
  (turn:∀ i m ys σ' H,W i m ys σ' H→(J.stop i H∧ys.length≤sizeLine∧∀ D,H D=none→Q (.ref D) (upd H D (.lst ys))) ∨
   (J.go i H∧∀ x H',J.IH i H x H'→g x σ' H' fun σ2 H2=>ti σ2 H2 fun b H3=>if b=true then te σ2 H3 fun y H4=>ys.length<sizeLine∧∃ m',m'<m∧W (i+1) m' (ys++[y]) σ2 H4 else ∃ m',m'<m∧W (i+1) m' ys σ2 H3))
  (VG:∀ (D C:Addr) (oC:Obj) (m:Str→Option Value) (H':Hp) (s':Shared),s'.heap.get? C=some oC→s'.heap.Ns C m→C≠X.env.locals→(X.s₀.heap.objs.size≤C)→(∀ x c,X.env.cells.lookup x=some c→c≠C)→(∀ p∈X.pn++pins,p.1≠C)→C∉X.fs→H' C=none →
   Inv X pins σ H' s'→Q (.ref D) H'→RR (.ref D) C (.ok .next) s') :
  wpAny (model X.prog X.w) X.A (newList []) (fun acc s₃=>wpAny (model X.prog X.w) X.A (newFunctionEnv scope X.env.globals (nK X.env scope.names []) [] X.env.qual none .none (some X.env)) (fun Nh s₄ =>
   codeAny (model X.prog X.w) X.A (.compStart (.ListComp elt [⟨tg,iter,ifs,0⟩] scope pos) 0 (.ref it) acc { Nh with scope:=relabel scope X.env }) (RR acc Nh.locals) s₄) E s₃) E s:=by
 refine wpAny_newObj_type (wz S.lay S.push fun h₁ RW=>?_)
 generalize QM:s.heap.push { cls:=.type "list",dict:=none,data:=.seq ([]:List Value).toArray }=HH at RW ⊢
 generalize SR:HH.objs.size=C at RW ⊢
 generalize MH:s.heap.objs.size=D
 have hC:C=D+1:=by rw[←SR,←QM,Heap.size_push,MH]
 generalize Lq:C+1=c0
 have Rf:c0=D+2:=by rw[←Lq,hC]
 have Pt:D≠C:=by rw[hC];exact Nat.ne_of_lt (Nat.lt_succ_self _)
 have below:∀ b,b<s.heap.objs.size→b≠C∧b≠D:=fun b hb=>by rw[MH] at hb;exact⟨by rw[hC];exact Nat.ne_of_lt (Nat.lt_succ_of_lt hb),Nat.ne_of_lt hb⟩
 have old:∀ b o,s.heap.get? b=some o→h₁.get? b=some o:=fun b o e=>by rw[RW];exact Heap.get?_push_of_some _ (Heap.get?_push_of_some _ (QM▸Heap.get?_push_of_some _ e))
 have QN:h₁.get? D=some { cls:=.type "list",data:=.seq ([]:List Value).toArray 0 }:=by rw[RW];exact Heap.get?_push_of_some _ (Heap.get?_push_of_some _ (by rw[←QM,←MH];exact Heap.get?_push_size _ rfl))
 have Hk:∃ m,h₁.Ns C m:=by
  have q:(HH.push { cls:=.type "dict",data:=.dict #[] }).Ns HH.objs.size (fun _=>none):=Heap.Ns.new ..
  rw[SR] at q
  refine⟨fun _=>none,?_⟩
  rw[RW]
  obtain⟨o,es,ep,ho,r⟩:=q
  exact⟨o,es,ep,Heap.get?_push_of_some _ ho,r⟩
 obtain⟨m₁,Hk⟩:=Hk
 have Rc:h₁.IsCell c0 none:=by
  rw[RW,←Lq,←SR]
  refine⟨{ cls:=.type "cell",data:=.cell none },?_,rfl⟩
  have q:((HH.push { cls:=.type "dict",data:=.dict #[] }).push { cls:=.type "cell",data:=.cell none }).get? (HH.push { cls:=.type "dict",data:=.dict #[] }).objs.size=some { cls:=.type "cell",data:=.cell none }:=Heap.get?_push_size _ rfl
  rwa [Heap.size_push] at q
 have L5:s.heap.objs.size≤C:=by rw[MH,hC];exact Nat.le_succ _
 have Tx:s.heap.objs.size≤c0:=by rw[MH,Rf];exact Nat.le_trans (Nat.le_succ _) (Nat.le_succ _)
 have Nj:s.heap.objs.size≤D:=Nat.le_of_eq MH
 have Wk:D≠c0:=by rw[Rf];exact Nat.ne_of_lt (Nat.lt_of_lt_of_le (Nat.lt_succ_self _) (Nat.le_succ _))
 have Wl:c0≠C:=by rw[Rf,hC];exact Nat.ne_of_gt (Nat.lt_succ_self _)
 have SS:D∉fp:=fun hm=>by
  obtain⟨o,e,_⟩:=T.obj _ _ st D hm
  exact (below D (Heap.lt_size e)).2 rfl
 have RS:H D=none:=I.d4.fresh Nj
 obtain⟨gG,gI,gE⟩:=hb C c0 s H fp (X.pn++pins)
 have I0:∀ tk,Inv (X.iA scope x0 cap C c0 s H fp (X.pn++pins)) [] (rm σ [x0] ix) H { s with heap:=h₁,toks:=tk }:=fun tk=>I.iA S hf (fun b hb=>(T.obj _ _ st b hb).imp fun o e=>e.1) L5 Tx Wl old Hk ⟨_,Rc⟩
 have SU:∀ x c,(X.iA scope x0 cap C c0 s H fp (X.pn++pins)).env.cells.lookup x=some c→X.env.cells.lookup x=some c∨c=c0:=fun x c e=>by
  rcases S.cv (S.has I.ok) e with ⟨_,z⟩ | ⟨_,z,_⟩
  ·exact .inr z
  ·exact .inl z
 have De:∀ x c,X.env.cells.lookup x=some c→c<s.heap.objs.size:=fun x c e=>by obtain⟨v,q⟩:=I.cell x c e;exact q.lt
 have Nk:∀ b∈uD X.stack,b<s.heap.objs.size:=fun b hb=>by
  rcases List.mem_cons.mp (I.wG b hb) with z | z
  ·rw[z];exact I.lt
  ·obtain⟨_,o,ho,_⟩:=I.uV.mem z
   exact Heap.lt_size ho
 have QO:∀ (H':Hp) (ps:List (Addr×Obj)),(∀ p∈ps,p.1=D)→(∀ b∈fp,H' b=none)→∀ b∈fp,Ab (X.iA scope x0 cap C c0 s H fp (X.pn++pins)) ps H' b:=fun H' ps Ex hn b hb=>by
  obtain⟨o,e,_⟩:=T.obj _ _ st b hb
  obtain⟨f0,f1,f2,f3,f4,f5⟩:=hf b hb
  refine⟨hn b hb,(below b (Heap.lt_size e)).1,fun z=>?_,.inl hb,fun x c q=>(SU x c q).elim (f4 x c) fun z y=>Nat.lt_irrefl _ (Nat.lt_of_lt_of_le (Heap.lt_size e) (by rw[←y,z];exact Tx)),fun p hp=>?_⟩
  ·rcases List.mem_cons.mp (I.wG b z) with y | y
   ·exact f1 y
   ·exact f2 y
  ·rcases List.mem_append.mp hp with z | z
   ·exact f5 p z
   ·intro y
    exact SS (by rw[←Ex p z,y];exact hb)
 have QP:∀ {H':Hp}{σ':St}{s':Shared}{o:Obj},Inv (X.iA scope x0 cap C c0 s H fp (X.pn++pins)) [] σ' H' s'→s'.heap.get? D=some o→(∀ v,o.data≠.cell v)→H' D=none→Inv (X.iA scope x0 cap C c0 s H fp (X.pn++pins)) [(D,o)] σ' H' s':=fun {H' σ' s' o} I' e hd hn =>
  I'.qK fun p hp=>by
   have e1:p=(D,o):=by simpa using hp
   subst e1
   exact⟨e,hn,Pt,fun z=>Nat.lt_irrefl _ (Nat.lt_of_lt_of_le (Nk D z) Nj),hd⟩
 have loop:∀ s₃:Shared,s₃={ s with heap:=h₁ } →
   codeAny (model X.prog X.w) X.A (.compLoop (.ListComp elt [⟨tg,iter,ifs,0⟩] scope pos) 0 (.ref it) (.ref D) (compEnvC scope ((x0,c0)::nK X.env scope.names []) C X.env)) (RR (.ref D) C) s₃:=by
  rintro s₃ rfl
  obtain⟨m0,w0⟩:=h0
  refine BW (fun n s'=>∃ i ys σ' H',Inv (X.iA scope x0 cap C c0 s H fp (X.pn++pins)) [] σ' H' s'∧tn i s'.heap∧(∀ b∈fp,H' b=none)∧H' D=none ∧
   (∃ (bF:List Value) (k:Nat),Vals ys bF∧s'.heap.get? D=some { cls:=.type "list",data:=.seq bF.toArray k })∧ys.length≤sizeLine∧W i n ys σ' H') ?_ m0
   ⟨0,[],_,H,I0 s.toks,T.keep _ _ _ st fun b _ o e=>old b o e,fun b hb=>(hf b hb).1,RS,⟨[],0,.nil,QN⟩,Nat.zero_le _,w0⟩
  rintro n s' ⟨i,ys,σ',H',I',G8,SV,IJ,⟨bF,k,hv,VH⟩,QQ,w'⟩
  have ID:=QP I' VH (fun v q=>nomatch q) IJ
  rcases turn i n ys σ' H' w' with ⟨stop,hz,q⟩ | ⟨go,step⟩
  ·refine gZ (T.done (X.iA scope x0 cap C c0 s H fp (X.pn++pins)) rfl rfl rfl hc i [(D,_)] s' σ' H' _ ID (QO H' _ (fun p hp=>by rw[List.mem_singleton.mp hp]) SV) G8 stop) fun r FD ⟨hr,I2⟩=>?_
   subst hr
   show RR (.ref D) C (.ok .next) FD
   have QR:FD.heap.get? D=some { cls:=.type "list",data:=.seq bF.toArray k }:=(I2.pin (D,_) (List.mem_append_right _ (List.mem_singleton.mpr rfl))).1
   obtain⟨m2,LR,_⟩:=I2.loc
   obtain⟨oC,es,ep,OV,_⟩:=id LR
   have QS:wg X.prog X.w (upd H' D (.lst ys)) FD.heap:=I2.d4.Ld IJ ⟨QQ,bF,k,hv,QR⟩
   have un:Un (uD X.stack) fp H (upd H' D (.lst ys)) s.heap FD.heap:=by
    have u0:Un (uD X.stack) fp H H' s.heap FD.heap:=I2.base
    refine⟨u0.keep,u0.slot,fun b o e hn hx=>?_,u0.there,fun b xs e=>?_,fun b o u e=>?_,fun b ps e=>?_⟩
    ·rw[aF (below b (Heap.lt_size e)).2];exact u0.free b o e hn hx
    ·rw[aF (aG (u0.iz b xs e) IJ)];exact u0.iz b xs e
    ·rw[aF (aG (u0.sO b o u e) IJ)];exact u0.sO b o u e
    ·obtain⟨more,e'⟩:=u0.uU b ps e
     exact⟨more,by rw[aF (aG e' IJ)];exact e'⟩
   have IX:Inv X pins σ (upd H' D (.lst ys)) FD:=I.Pm (ch:=fp) I2.os un QS I2.bare fun b hb=>⟨(hf b hb).2.2.2.1,(hf b hb).2.1,(hf b hb).2.2.2.2.1,(hf b hb).2.2.2.2.2⟩
   refine VG D C oC m2 _ FD OV LR ?_ ?_ (fun x c e z=>?_) (fun p hp z=>?_) (fun z=>?_) ?_ IX (q D IJ)
   ·exact fun z=>Nat.lt_irrefl _ (Nat.lt_of_lt_of_le I.lt (by rw[←z];exact L5))
   ·exact Nat.le_trans I.sz L5
   ·exact Nat.lt_irrefl _ (Nat.lt_of_lt_of_le (De x c e) (by rw[z];exact L5))
   ·exact Nat.lt_irrefl _ (Nat.lt_of_lt_of_le (Heap.lt_size (I.pin p hp).1) (by rw[z];exact L5))
   ·obtain⟨_,o,ho,_⟩:=I.uV.mem z
    exact Nat.lt_irrefl _ (Nat.lt_of_lt_of_le (Heap.lt_size ho) L5)
   ·rw[aF Pt.symm];exact I2.free
  ·refine gZ (T.item (X.iA scope x0 cap C c0 s H fp (X.pn++pins)) rfl rfl rfl hc i [(D,_)] s' σ' H' _ ID (QO H' _ (fun p hp=>by rw[List.mem_singleton.mp hp]) SV) G8 go) fun r s4 ⟨u,hr,h4⟩=>?_
   subst hr
   refine gZ h4 fun _ s5 ⟨x,H5,I5,r5,y5,MY,Ss⟩=>?_
   have VI:=I5.pin (D,_) (List.mem_append_right _ (List.mem_singleton.mpr rfl))
   have Sv:=I5.pinned (QO H5 _ (fun p hp=>by rw[List.mem_singleton.mp hp]) Ss) (T.obj _ _ MY)
   refine gZ (gG _ s5 σ' H5 x u _ Sv r5 (step x H5 y5)) fun _ s6 ⟨σ6,H6,I6,q6⟩=>?_
   refine gZ (gI _ s6 σ6 H6 _ I6 q6) fun ok s7 ⟨H7,I7,q7⟩=>?_
   have SW:∀ {σ8:St}{H8:Hp}{s8:Shared},Inv (X.iA scope x0 cap C c0 s H fp (X.pn++pins)) ([(D,({ cls:=.type "list",data:=.seq bF.toArray k }:Obj))]++wI fp s5.heap) σ8 H8 s8→tn (i+1) s8.heap∧(∀ b∈fp,H8 b=none):=fun {σ8 H8 s8} I8=>by
    refine⟨T.keep _ _ _ MY fun b hb o e=>(I8.pin (b,o) (List.mem_append_right _ (List.mem_append_right _ (oQ hb e)))).1,fun b hb=>?_⟩
    obtain⟨o,e,d⟩:=T.obj _ _ MY b hb
    exact (I8.pin (b,o) (List.mem_append_right _ (List.mem_append_right _ (oQ hb e)))).2.1
   have dK:∀ {σ8:St}{H8:Hp}{s8:Shared},Inv (X.iA scope x0 cap C c0 s H fp (X.pn++pins)) ([(D,({ cls:=.type "list",data:=.seq bF.toArray k }:Obj))]++wI fp s5.heap) σ8 H8 s8→s8.heap.get? D=some { cls:=.type "list",data:=.seq bF.toArray k }∧H8 D=none:=fun {σ8 H8 s8} I8=>by
    have z:=I8.pin (D,_) (List.mem_append_right _ (List.mem_append_left _ (List.mem_singleton.mpr rfl)))
    exact⟨z.1,z.2.1⟩
   cases ok with
   | false =>
    obtain⟨m',hm,w7⟩:=q7
    obtain⟨VJ,VL⟩:=SW I7
    obtain⟨VM,Nl⟩:=dK I7
    exact⟨m',hm,i+1,ys,σ6,H7,I7.qK (fun p hp=>nomatch hp),VJ,VL,Nl,⟨bF,k,hv,VM⟩,QQ,w7⟩
   | true =>
    refine gZ (gE _ s7 σ6 H7 _ I7 q7) fun xv s8 ⟨y,H8,I8,r8,SX,m',hm,w8⟩=>?_
    obtain⟨VN,VO⟩:=SW I8
    obtain⟨VP,SY⟩:=dK I8
    refine append_at (hsz:=by rw[List.size_toArray,←hv.length];exact Nat.le_of_lt SX) VP fun h9 S0 VQ=>?_
    have I9:Inv (X.iA scope x0 cap C c0 s H fp (X.pn++pins)) [] σ6 H8 { s8 with heap:=h9 }:=by
     refine (I8.qK (pins':=[]) fun p hp=>nomatch hp).turned (t':=s8.toks) (it:=D) (fun b o hb e=>S0.extBut b o hb e) SY Pt (.inr Nj) (fun x c e z=>?_) (fun p hp z=>?_)
     ·rcases SU x c e with q | q
      ·exact Nat.lt_irrefl _ (Nat.lt_of_lt_of_le (De x c q) (by rw[z];exact Nj))
      ·exact Wk (by rw[←z,q])
     ·have yK:p∈X.pn++pins:=by simpa [Cx.iA] using hp
      exact Nat.lt_irrefl _ (Nat.lt_of_lt_of_le (Heap.lt_size (I.pin p yK).1) (by rw[z];exact Nj))
    refine⟨m',hm,i+1,ys++[y],σ6,H8,I9,T.keep _ _ _ VN fun b hb o e=>S0.extBut b o (fun z=>SS (by rw[←z];exact hb)) e,VO,SY,⟨bF++[xv],k+1,hv.append (.cons r8 .nil),?_⟩,by rw[List.length_append,List.length_singleton];exact SX,w8⟩
    rw[VQ,List.push_toArray]
 exact codeAny_compStart_list (loop _ rfl) (T.self _ 0 _ _ _ (T.keep _ _ _ st fun b _ o e=>old b o e) (loop _ rfl))
theorem NN {wi:TI}{g:TG}{ti:TT}{te:TE} (hc:X.calm=true) (S:kD X.N X.env.scope scope x0 cap ix) (hi:PI X tg iter wi)
  (hb:∀ (C c0:Addr) (s₀:Shared) (H₀:Hp) (ex:List Addr) (pn:List (Addr×Obj)),PG (X.iA scope x0 cap C c0 s₀ H₀ ex pn) tg g∧Hj (X.iA scope x0 cap C c0 s₀ H₀ ex pn) ifs ti∧PE (X.iA scope x0 cap C c0 s₀ H₀ ex pn) elt te)
  (hs:∀ x,foldedSetIterable iter X.env x=pure x:=by intro _;rfl):PE X (.ListComp elt [⟨tg,iter,ifs,0⟩] scope pos) (sT [x0] ix wi g ti te):=by
 intro pins s σ H Q I h
 rw[eval_ListComp]
 refine wpAny_comprehension_free (use:=none) rfl hs (qv (S.has I.ok)) S.kind S.names (gZ (hi pins s σ H _ I h) fun xv s₁ h₁=>gZ h₁ fun Sr s₂ h₂=>?_)
 obtain⟨it,fp,tn,J,H2,e,I2,T,IU,f2,W,h0,turn⟩:=h₂
 subst e
 refine HU (Q:=Q) (RR:=fun acc C=>compPost (model X.prog X.w) X.A X.xe none (EP X pins σ Q) acc C) hc I2 S T IU f2 hb h0 turn ?_
 intro D C oC m H' s' OV hn h1 h2 h3 h4 h5 h6 I' q
 refine⟨m,hn,fun h' Pu=>⟨.ref D,H',I'.turned (t':=s'.toks) (it:=C) (fun b o hb e=>Pu.extBut b o hb e) h6 (Ne.symm h1.symm) (.inr h2) h3 h4,rfl,q⟩⟩
end
theorem HV {X:Cx}{w6 scope:Scope}{x0:Str}{HW own cap:List Str}{ix:List Nat}{C0 c0:Addr}{s0:Shared}{H0:Hp}{Cu:List Addr}{Rg:List (Addr×Obj)}{tg iter elt:Expr}{ifs:List Expr}{pos:Pos}{wi:TI}{g:TG}{ti:TT}{te:TE} (hc:X.calm=true) (S:br (x0::HW) w6 scope own cap ix) (hi:PI (X.iA w6 x0 HW C0 c0 s0 H0 Cu Rg) tg iter wi)
  (hb:∀ (C:Addr) (s₀:Shared) (H₀:Hp) (ex:List Addr) (pn:List (Addr×Obj)),PG ((X.iA w6 x0 HW C0 c0 s0 H0 Cu Rg).comp scope own cap C s₀ H₀ ex pn) tg g∧Hj ((X.iA w6 x0 HW C0 c0 s0 H0 Cu Rg).comp scope own cap C s₀ H₀ ex pn) ifs ti∧PE ((X.iA w6 x0 HW C0 c0 s0 H0 Cu Rg).comp scope own cap C s₀ H₀ ex pn) elt te)
  (hs:∀ x,foldedSetIterable iter (X.iA w6 x0 HW C0 c0 s0 H0 Cu Rg).env x=pure x:=by intro _;rfl):PE (X.iA w6 x0 HW C0 c0 s0 H0 Cu Rg) (.ListComp elt [⟨tg,iter,ifs,0⟩] scope pos) (sT own ix wi g ti te) :=
 fP (X:=X.iA w6 x0 HW C0 c0 s0 H0 Cu Rg) hc S.Ta hi hb hs
end L2
namespace K12
open PySem L2 SH
local macro_rules | `(tactic| and_intros) => `(tactic| simp only [rExtend, rSetL, gSub, iRng3, tSeq, tNext, tRet, tRetN, tAsg, tIfS, tDrop, tVar, tC, tOp, tUn, rI0, rI, rU, rEq, rNe, tTest, tB, tCB, tCons, tNil, tLst, tTup, tSl, tNoPart, tPart, rSlS, rSlL, rIxL, rIxT, rIxS, tCall, tMeth, tMake, tAnd, tOr, tNot, tAndV, tOrV, tNotV, tIf, tChain, gName, tFld, sFld, tBM, tBM0, rAppend, rInsert, tRaise, tNever, CDiv, CMul, L2.start, scal_ii, scal_ss, scal_bb, cxOf, cxOfN, Cx.suite, Cx.comp, rLenL, rLenT, rListL, rListT, rTupL, rTupT, rIsiT, iRng1, iRng2, iList, iTup, iStr, gTup, gCons, gNil, iEnumT, iZipT, tDIn, rDictP, rRange1, rRange2, rListR, rTupF, tCountF, rCountT, tAug, ipI, rSlT, rSlTa, iTup, rCatT, rCat, rPop, rInD, rCount, List.set_cons_zero, List.set_cons_succ, List.getElem?_cons_zero, List.getElem?_cons_succ, List.map_cons, List.map_nil, List.length_cons, List.length_nil, List.replicate_succ, List.replicate_zero, Nat.reduceSub, Nat.reduceAdd, List.cons_append, List.nil_append, List.append_nil, V.int.injEq, V.str.injEq, V.bl.injEq, V.ref.injEq, V.ty.injEq, Option.some.injEq, List.cons.injEq, exists_eq_left', exists_eq_left, exists_eq_right, exists_eq_right', exists_and_left, exists_and_right, and_true, true_and, and_assoc, decide_eq_true_eq, Bool.not_eq_true', decide_eq_false_iff_not, Bool.not_true, Bool.not_false, Bool.false_eq_true, if_false, if_true, eq_self, Bool.not_eq_true, Bool.true_eq_false, reduceCtorEq, false_and, exists_false, exists_const, List.reduceReplicate, Int.reduceLT, Int.reduceLE, Nat.reduceLT, Nat.reduceLeDiff, Int.reduceNeg, List.getElem?_nil, Option.join_some, Option.join_none, List.set_nil, ite_self, not_true_eq_false, not_false_eq_true])
def top (i:Nat):Stmt:=PySem.Challenge.pw_shrinkhouse_k12_whole_more_never_heals.main.body.getD i (.Pass ⟨0,0,0,0⟩)
abbrev zc:Stmt:=inClass (top 4) 0
abbrev w9:Stmt:=inClass (top 4) 1
abbrev xa:Stmt:=inClass (top 4) 4
abbrev xb:Stmt:=inClass (top 5) 0
abbrev vb:Stmt:=inClass (top 5) 1
abbrev vd:Stmt:=inClass (top 5) 4
abbrev xc:Stmt:=inClass (top 6) 0
abbrev rA:Stmt:=inClass (top 7) 0
abbrev rB:Stmt:=inClass (top 7) 2
abbrev tQ:Stmt:=inClass (top 8) 0
abbrev tR:Stmt:=inClass (top 8) 2
abbrev rC:Stmt:=inClass (top 9) 0
abbrev rD:Stmt:=inClass (top 9) 2
abbrev ve:Stmt:=inClass (top 10) 0
abbrev pJ:Stmt:=inClass (top 10) 2
abbrev xf:Stmt:=inClass (top 11) 0
abbrev xg:Stmt:=inClass (top 12) 0
abbrev zd:Stmt:=inClass (top 13) 0
abbrev xh:Stmt:=inClass (top 13) 1
abbrev xi:Stmt:=inClass (top 13) 4
abbrev oU:Stmt:=top 21
abbrev oV:Stmt:=top 22
abbrev jy:Stmt:=top 29
abbrev jW:Stmt:=top 30
abbrev nO:Stmt:=top 31
abbrev mf:Stmt:=top 32
abbrev mh:Stmt:=top 33
abbrev hX:Stmt:=top 34
abbrev kE:Stmt:=top 35
abbrev ny:Stmt:=top 36
abbrev jb:Stmt:=top 37
abbrev dH:Stmt:=top 38
abbrev vf:Stmt:=inClass (top 39) 0
abbrev qy:Stmt:=inClass (top 39) 2
abbrev nP:Stmt:=inClass (top 39) 3
abbrev ze:Stmt:=inClass (top 40) 0
abbrev zf:Stmt:=inClass (top 40) 1
abbrev zg:Stmt:=inClass (top 40) 2
abbrev rE:Stmt:=inClass (top 40) 5
abbrev qz:Stmt:=inClass (top 40) 6
abbrev pK:Stmt:=inClass (top 41) 0
abbrev tS:Stmt:=inClass (top 41) 1
abbrev pL:Stmt:=inClass (top 41) 2
abbrev nQ:Stmt:=inClass (top 41) 4
abbrev nR:Stmt:=inClass (top 41) 5
abbrev mV:Stmt:=inClass (top 41) 6
abbrev oW:Stmt:=inClass (top 41) 7
abbrev qO:Stmt:=inClass (top 42) 0
abbrev vg:Stmt:=inClass (top 42) 1
abbrev lg:Stmt:=inClass (top 42) 2
abbrev lh:Stmt:=inClass (top 42) 5
abbrev kh:Stmt:=inClass (top 42) 6
abbrev gc:Stmt:=top 44
abbrev nS:Stmt:=top 45
abbrev ju:Stmt:=top 46
abbrev lj:Stmt:=top 47
abbrev iB:Stmt:=top 48
abbrev g9:Stmt:=top 49
abbrev nU:Stmt:=top 50
abbrev jv:Stmt:=top 52
abbrev p8:Stmt:=top 53
abbrev jc:Stmt:=top 54
abbrev p9:Stmt:=top 55
abbrev qa:Stmt:=top 56
abbrev iC:Stmt:=top 57
abbrev kG:Stmt:=top 58
abbrev Dq:Stmt:=top 59
theorem HX:aJ ["self","mark"] ["self","mark"] (ar zc):=⟨rfl,rfl,rfl,by decide +kernel,rfl,by decide +kernel,by decide +kernel⟩
theorem F0:aJ ["self","thing"] ["self","thing"] (ar w9):=⟨rfl,rfl,rfl,by decide +kernel,rfl,by decide +kernel,by decide +kernel⟩
theorem F1:aJ ["self"] ["self"] (ar xa):=⟨rfl,rfl,rfl,by decide +kernel,rfl,by decide +kernel,by decide +kernel⟩
theorem F2:aJ ["self","number","mark"] ["self","number","mark"] (ar xb):=⟨rfl,rfl,rfl,by decide +kernel,rfl,by decide +kernel,by decide +kernel⟩
theorem Ez:aJ ["self","thing"] ["self","thing"] (ar vb):=⟨rfl,rfl,rfl,by decide +kernel,rfl,by decide +kernel,by decide +kernel⟩
theorem EA:aJ ["self"] ["self"] (ar vd):=⟨rfl,rfl,rfl,by decide +kernel,rfl,by decide +kernel,by decide +kernel⟩
theorem F3:aJ ["self","one","other"] ["self","one","other"] (ar xc):=⟨rfl,rfl,rfl,by decide +kernel,rfl,by decide +kernel,by decide +kernel⟩
theorem Cv:aJ ["self","thing"] ["self","thing"] (ar rA):=⟨rfl,rfl,rfl,by decide +kernel,rfl,by decide +kernel,by decide +kernel⟩
theorem Cw:aJ ["self"] ["self"] (ar rB):=⟨rfl,rfl,rfl,by decide +kernel,rfl,by decide +kernel,by decide +kernel⟩
theorem Dr:aJ ["self","thing"] ["self","thing"] (ar tQ):=⟨rfl,rfl,rfl,by decide +kernel,rfl,by decide +kernel,by decide +kernel⟩
theorem Ds:aJ ["self"] ["self"] (ar tR):=⟨rfl,rfl,rfl,by decide +kernel,rfl,by decide +kernel,by decide +kernel⟩
theorem Cy:aJ ["self","thing"] ["self","thing"] (ar rC):=⟨rfl,rfl,rfl,by decide +kernel,rfl,by decide +kernel,by decide +kernel⟩
theorem Cz:aJ ["self"] ["self"] (ar rD):=⟨rfl,rfl,rfl,by decide +kernel,rfl,by decide +kernel,by decide +kernel⟩
theorem EB:aJ ["self","parts"] ["self","parts"] (ar ve):=⟨rfl,rfl,rfl,by decide +kernel,rfl,by decide +kernel,by decide +kernel⟩
theorem xj:aJ ["self"] ["self"] (ar pJ):=⟨rfl,rfl,rfl,by decide +kernel,rfl,by decide +kernel,by decide +kernel⟩
theorem vh:aJ ["self","thing","part"] ["self","thing"] (ar xf):=⟨rfl,rfl,rfl,by decide +kernel,rfl,by decide +kernel,by decide +kernel⟩
theorem vi:aJ ["self","thing","part"] ["self","thing"] (ar xg):=⟨rfl,rfl,rfl,by decide +kernel,rfl,by decide +kernel,by decide +kernel⟩
theorem HY:aJ ["self","part"] ["self","part"] (ar zd):=⟨rfl,rfl,rfl,by decide +kernel,rfl,by decide +kernel,by decide +kernel⟩
theorem Aq:aJ ["self","thing"] ["self","thing"] (ar xh):=⟨rfl,rfl,rfl,by decide +kernel,rfl,by decide +kernel,by decide +kernel⟩
theorem F4:aJ ["self"] ["self"] (ar xi):=⟨rfl,rfl,rfl,by decide +kernel,rfl,by decide +kernel,by decide +kernel⟩
theorem HZ:aJ ["thing"] ["thing"] (ar oU):=⟨rfl,rfl,rfl,by decide +kernel,rfl,by decide +kernel,by decide +kernel⟩
theorem JC:aJ ["thing"] ["thing"] (ar oV):=⟨rfl,rfl,rfl,by decide +kernel,rfl,by decide +kernel,by decide +kernel⟩
theorem EC:aJ ["thing","most"] ["thing","most"] (ar jy):=⟨rfl,rfl,rfl,by decide +kernel,rfl,by decide +kernel,by decide +kernel⟩
theorem xk:aJ ["marks","most","mark"] ["marks","most"] (ar jW):=⟨rfl,rfl,rfl,by decide +kernel,rfl,by decide +kernel,by decide +kernel⟩
theorem ED:aJ ["node","deepest"] ["node","deepest"] (ar nO):=⟨rfl,rfl,rfl,by decide +kernel,rfl,by decide +kernel,by decide +kernel⟩
theorem nV:aJ ["nodes","deepest","node"] ["nodes"] (ar mf):=⟨rfl,rfl,rfl,by decide +kernel,rfl,by decide +kernel,by decide +kernel⟩
theorem xl:aJ ["lines","line"] ["lines"] (ar mh):=⟨rfl,rfl,rfl,by decide +kernel,rfl,by decide +kernel,by decide +kernel⟩
theorem mJ:aJ ["places","many","lowest","place"] ["places","many"] (ar hX):=⟨rfl,rfl,rfl,by decide +kernel,rfl,by decide +kernel,by decide +kernel⟩
theorem Ia:aJ ["marks","places"] ["marks","places"] (ar kE):=⟨rfl,rfl,rfl,by decide +kernel,rfl,by decide +kernel,by decide +kernel⟩
theorem F5:aJ ["marks","mark"] ["marks","mark"] (ar ny):=⟨rfl,rfl,rfl,by decide +kernel,rfl,by decide +kernel,by decide +kernel⟩
theorem mK:aJ ["marks","one","other","seen","mark"] ["marks","one","other"] (ar jb):=⟨rfl,rfl,rfl,by decide +kernel,rfl,by decide +kernel,by decide +kernel⟩
theorem wA:aJ ["marks","one","other"] ["marks","one","other"] (ar dH):=⟨rfl,rfl,rfl,by decide +kernel,rfl,by decide +kernel,by decide +kernel⟩
theorem EE:aJ ["self","spot_marks"] ["self","spot_marks"] (ar vf):=⟨rfl,rfl,rfl,by decide +kernel,rfl,by decide +kernel,by decide +kernel⟩
theorem Bb:aJ ["self","mark"] ["self","mark"] (ar qy):=⟨rfl,rfl,rfl,by decide +kernel,rfl,by decide +kernel,by decide +kernel⟩
theorem zh:aJ ["self","one","other"] ["self","one","other"] (ar nP):=⟨rfl,rfl,rfl,by decide +kernel,rfl,by decide +kernel,by decide +kernel⟩
theorem Ib:aJ ["self","marks"] ["self","marks"] (ar ze):=⟨rfl,rfl,rfl,by decide +kernel,rfl,by decide +kernel,by decide +kernel⟩
theorem Ic:aJ ["self"] ["self"] (ar zf):=⟨rfl,rfl,rfl,by decide +kernel,rfl,by decide +kernel,by decide +kernel⟩
theorem Ie:aJ ["self","places"] ["self","places"] (ar zg):=⟨rfl,rfl,rfl,by decide +kernel,rfl,by decide +kernel,by decide +kernel⟩
theorem CA:aJ ["self","one","other"] ["self","one","other"] (ar rE):=⟨rfl,rfl,rfl,by decide +kernel,rfl,by decide +kernel,by decide +kernel⟩
theorem Bc:aJ ["self","one","other"] ["self","one","other"] (ar qz):=⟨rfl,rfl,rfl,by decide +kernel,rfl,by decide +kernel,by decide +kernel⟩
theorem Dt:aJ ["self","nodes"] ["self","nodes"] (ar pK):=⟨rfl,rfl,rfl,by decide +kernel,rfl,by decide +kernel,by decide +kernel⟩
theorem Du:aJ ["self"] ["self"] (ar tS):=⟨rfl,rfl,rfl,by decide +kernel,rfl,by decide +kernel,by decide +kernel⟩
theorem gd:aJ ["self","places","kept","rest","above","place","node","depth"] ["self","places"] (ar pL):=⟨rfl,rfl,rfl,by decide +kernel,rfl,by decide +kernel,by decide +kernel⟩
theorem zi:aJ ["self","mark"] ["self","mark"] (ar nQ):=⟨rfl,rfl,rfl,by decide +kernel,rfl,by decide +kernel,by decide +kernel⟩
theorem rF:aJ ["self","one","other","place"] ["self","one","other"] (ar nR):=⟨rfl,rfl,rfl,by decide +kernel,rfl,by decide +kernel,by decide +kernel⟩
theorem lY:aJ ["self","one","other","place","behind"] ["self","one","other"] (ar mV):=⟨rfl,rfl,rfl,by decide +kernel,rfl,by decide +kernel,by decide +kernel⟩
theorem nW:aJ ["self","place","end"] ["self","place"] (ar oW):=⟨rfl,rfl,rfl,by decide +kernel,rfl,by decide +kernel,by decide +kernel⟩
theorem tU:aJ ["self","lines","spot_marks","line"] ["self","lines"] (ar qO):=⟨rfl,rfl,rfl,by decide +kernel,rfl,by decide +kernel,by decide +kernel⟩
theorem EF:aJ ["self"] ["self"] (ar vg):=⟨rfl,rfl,rfl,by decide +kernel,rfl,by decide +kernel,by decide +kernel⟩
theorem mj:aJ ["self","places","first_column","lines","columns","rest"] ["self","places"] (ar lg):=⟨rfl,rfl,rfl,by decide +kernel,rfl,by decide +kernel,by decide +kernel⟩
theorem sW:aJ ["self","one","other","column"] ["self","one","other"] (ar lh):=⟨rfl,rfl,rfl,by decide +kernel,rfl,by decide +kernel,by decide +kernel⟩
theorem zj:aJ ["self","one","other"] ["self","one","other"] (ar kh):=⟨rfl,rfl,rfl,by decide +kernel,rfl,by decide +kernel,by decide +kernel⟩
theorem CB:aJ ["_law_script","_law_k"] ["_law_script","_law_k"] (ar gc):=⟨rfl,rfl,rfl,by decide +kernel,rfl,by decide +kernel,by decide +kernel⟩
theorem bC:aJ ["_law_cell","_law_many","_law_letters","_law_size_here","_law_at","_law_found","_law_rest","_law_k","_law_name","_law_more","_law_j","_law_place"] ["_law_cell","_law_many"] (ar nS):=⟨rfl,rfl,rfl,by decide +kernel,rfl,by decide +kernel,by decide +kernel⟩
theorem gL:aJ ["_law_script","_law_begin","_law_kind","_law_many","_law_names_here","_law_cells","_law_nodes","_law_deep","_law_cell","_law_wide","_law_lines","_law_k"] ["_law_script","_law_begin","_law_kind","_law_many","_law_names_here"] (ar ju):=⟨rfl,rfl,rfl,by decide +kernel,rfl,by decide +kernel,by decide +kernel⟩
theorem EG:aJ ["_law_kind","_law_data_here"] ["_law_kind","_law_data_here"] (ar lj):=⟨rfl,rfl,rfl,by decide +kernel,rfl,by decide +kernel,by decide +kernel⟩
theorem pM:aJ ["_law_kind","_law_data_here","_law_found","_law_line"] ["_law_kind","_law_data_here"] (ar iB):=⟨rfl,rfl,rfl,by decide +kernel,rfl,by decide +kernel,by decide +kernel⟩
theorem nX:aJ ["_law_data_here","_law_i","_law_k"] ["_law_data_here","_law_i"] (ar g9):=⟨rfl,rfl,rfl,by decide +kernel,rfl,by decide +kernel,by decide +kernel⟩
theorem eA:aJ ["_law_kind","_law_data_here","_law_word","_law_spots_here","_law_found","_law_i","_law_j","_law_there"] ["_law_kind","_law_data_here","_law_word"] (ar nU):=⟨rfl,rfl,rfl,by decide +kernel,rfl,by decide +kernel,by decide +kernel⟩
theorem jz:aJ ["_law_kind","_law_data_here","_law_places","_law_columns","_law_found","_law_place","_law_deep","_law_above"] ["_law_kind","_law_data_here","_law_places"] (ar jv):=⟨rfl,rfl,rfl,by decide +kernel,rfl,by decide +kernel,by decide +kernel⟩
theorem F6:aJ ["_law_kind","_law_data_here"] ["_law_kind","_law_data_here"] (ar p8):=⟨rfl,rfl,rfl,by decide +kernel,rfl,by decide +kernel,by decide +kernel⟩
theorem ki:aJ ["_law_kind","_law_left_here","_law_cell","_law_spots_here","_law_one","_law_pairs_here"] ["_law_kind","_law_left_here","_law_cell"] (ar jc):=⟨rfl,rfl,rfl,by decide +kernel,rfl,by decide +kernel,by decide +kernel⟩
theorem qP:aJ ["_law_cell","_law_names_here","_law_one","_law_other","_law_word"] ["_law_cell","_law_names_here"] (ar p9):=⟨rfl,rfl,rfl,by decide +kernel,rfl,by decide +kernel,by decide +kernel⟩
theorem gM:aJ ["_law_script","_law_begin","_law_many","_law_names_here","_law_stack","_law_k","_law_cell","_law_way","_law_size_here"] ["_law_script","_law_begin","_law_many","_law_names_here"] (ar qa):=⟨rfl,rfl,rfl,by decide +kernel,rfl,by decide +kernel,by decide +kernel⟩
theorem yN:aJ ["_law_term_here"] ["_law_term_here"] (ar iC):=⟨rfl,rfl,rfl,by decide +kernel,rfl,by decide +kernel,by decide +kernel⟩
theorem mL:aJ ["_law_script","_law_kind","_law_left_here","_law_term_here","_law_way","_law_parts","_law_k"] ["_law_script","_law_kind","_law_left_here","_law_term_here"] (ar kG):=⟨rfl,rfl,rfl,by decide +kernel,rfl,by decide +kernel,by decide +kernel⟩
theorem oX:aJ ["_law_script","_law_seed","_law_names_here","_law_kind","_law_data_here","_law_fewer","_law_more","_law_place","_law_cell","_law_term_here","_law_fault_here","_law_thing_here"] ["_law_script"] (ar Dq):=⟨rfl,rfl,rfl,by decide +kernel,rfl,by decide +kernel,by decide +kernel⟩
structure jw where
 Tz:Addr
 Fn:Addr
 rG:Addr
 Pair:Addr
 iP:Addr
 Under:Addr
 iQ:Addr
 TB:Addr
 All:Addr
 Any:Addr
 Not:Addr
 Ig:Addr
 nY:Addr
 vj:Addr
 Thing:Addr
 Row:Addr
 cF:Addr
 Table:Addr
structure Txt (K:PySem.W.Frag) (mg:Str→Option Value) (ad:jw):Prop where
 all:mg "all" = none
 any:mg "any" = none
 bool:mg "bool" = none
 dict:mg "dict" = none
 enumerate:mg "enumerate" = none
 int:mg "int" = none
 isinstance:mg "isinstance" = none
 len:mg "len" = none
 list:mg "list" = none
 min:mg "min" = none
 range:mg "range" = none
 str:mg "str" = none
 tuple:mg "tuple" = none
 zip:mg "zip" = none
 UR:mg "Fault" = some (.ref ad.Tz)
 TC:mg "Has" = some (.ref ad.Fn)
 Rh:mg "Many" = some (.ref ad.rG)
 Wm:mg "Pair" = some (.ref ad.Pair)
 NO:mg "Before" = some (.ref ad.iP)
 O9:mg "Under" = some (.ref ad.Under)
 NP:mg "Beside" = some (.ref ad.iQ)
 US:mg "Joint" = some (.ref ad.TB)
 TF:mg "All" = some (.ref ad.All)
 TH:mg "Any" = some (.ref ad.Any)
 TJ:mg "Not" = some (.ref ad.Not)
 OC:mg "ShrinkError" = some (.ref ad.Ig)
 RX:mg "NoThing" = some (.ref ad.nY)
 RY:mg "NoPlace" = some (.ref ad.vj)
 F7:mg "Thing" = some (.ref ad.Thing)
 PQ:mg "Row" = some (.ref ad.Row)
 Ih:mg "Forest" = some (.ref ad.cF)
 Lr:mg "Table" = some (.ref ad.Table)
 uK:∃ t,mg "LETTERS" = some (.str Jm t)
 kH:∃ t,mg "LONGEST_MARK" = some (.int 8 t)
 ml:∃ t,mg "MOST_IN_ROW" = some (.int 40 t)
 nZ:∃ t,mg "MOST_NODES" = some (.int 40 t)
 uL:∃ t,mg "DEEPEST" = some (.int 12 t)
 n5:∃ t,mg "MOST_LINES" = some (.int 12 t)
 kI:∃ t,mg "MOST_COLUMNS" = some (.int 12 t)
 Fo:Jl K mg "NoPlace" ad.vj
 Ri:Pw K ad.vj
 oY:Jl K mg "NoThing" ad.nY
 Rj:Pw K ad.nY
 rH:yF K ad.All
 vk:dg K ad.All "parts"
 Wn:PySem.W.findIn K (.ref ad.All) "__class__" = some (some (.builtin "object.__class__"))
 Wo:PySem.W.mroIn K ad.All (.type "object")=some true
 rJ:yF K ad.Any
 vm:dg K ad.Any "parts"
 Wq:PySem.W.findIn K (.ref ad.Any) "__class__" = some (some (.builtin "object.__class__"))
 Wr:PySem.W.mroIn K ad.Any (.type "object")=some true
 jd:yF K ad.iP
 yO:dg K ad.iP "one"
 wm:dg K ad.iP "other"
 RZ:PySem.W.findIn K (.ref ad.iP) "__class__" = some (some (.builtin "object.__class__"))
 R0:PySem.W.mroIn K ad.iP (.type "object")=some true
 je:yF K ad.iQ
 yP:dg K ad.iQ "one"
 wo:dg K ad.iQ "other"
 R9:PySem.W.findIn K (.ref ad.iQ) "__class__" = some (some (.builtin "object.__class__"))
 Sb:PySem.W.mroIn K ad.iQ (.type "object")=some true
 aU:yF K ad.cF
 gy:dg K ad.cF "nodes"
 gf:dg K ad.cF "spot_marks"
 Sd:PySem.W.findIn K (.ref ad.cF) "__class__" = some (some (.builtin "object.__class__"))
 Se:PySem.W.mroIn K ad.cF (.type "object")=some true
 tV:yF K ad.Fn
 Ca:dg K ad.Fn "mark"
 Ws:PySem.W.findIn K (.ref ad.Fn) "__class__" = some (some (.builtin "object.__class__"))
 Wt:PySem.W.mroIn K ad.Fn (.type "object")=some true
 mM:yF K ad.rG
 Ar:dg K ad.rG "mark"
 xn:dg K ad.rG "number"
 UT:PySem.W.findIn K (.ref ad.rG) "__class__" = some (some (.builtin "object.__class__"))
 UU:PySem.W.mroIn K ad.rG (.type "object")=some true
 kJ:yF K ad.Not
 iD:dg K ad.Not "part"
 Wu:PySem.W.findIn K (.ref ad.Not) "__class__" = some (some (.builtin "object.__class__"))
 Wv:PySem.W.mroIn K ad.Not (.type "object")=some true
 fF:yF K ad.Row
 gp:dg K ad.Row "spot_marks"
 Ww:PySem.W.findIn K (.ref ad.Row) "__class__" = some (some (.builtin "object.__class__"))
 Wx:PySem.W.mroIn K ad.Row (.type "object")=some true
 bz:yF K ad.Table
 jf:dg K ad.Table "columns"
 jg:dg K ad.Table "lines"
 lZ:dg K ad.Table "spot_marks"
 TK:PySem.W.findIn K (.ref ad.Table) "__class__" = some (some (.builtin "object.__class__"))
 TL:PySem.W.mroIn K ad.Table (.type "object")=some true
 kK:yF K ad.Under
 As:dg K ad.Under "one"
 xo:dg K ad.Under "other"
 TM:PySem.W.findIn K (.ref ad.Under) "__class__" = some (some (.builtin "object.__class__"))
 TN:PySem.W.mroIn K ad.Under (.type "object")=some true
 hn:PySem.W.specialIn K (.builtin "object.__class__") "__get__" = some (some (.builtin "getset_descriptor.__get__"))
 Vs:PySem.W.takesIn K (.builtin "object.__class__")=some true
def SameBut (p:Addr) (H H':Hp):Prop:=∀ b o,b≠p→H b=some o→H' b=some o
def mW (ad:jw) (H:Hp) (p:Addr) (xs:List V):Prop:=∃ dx t,H p=some (.ins ad.Row dx [("spot_marks",.ref t)])∧zb H t xs∧xs.all markV=true∧xs.length≤40
def TabObj (ad:jw) (H:Hp) (p:Addr) (ls:List (List V)) (w:Nat):Prop:=∃ dx t1 t2 ts,H p=some (.ins ad.Table dx [("spot_marks",.ref t1),("lines",.ref t2),("columns",.int w)])∧zb H t1 ls.flatten∧H t2=some (.tup ts)∧aN .tup H ts ls∧w≤12∧ls.length≤12∧∀ l∈ls,qw w l
theorem mW.same {ad:jw}{H H':Hp}{p:Addr}{xs:List V} (s:aq H H') (r:mW ad H p xs):mW ad H' p xs:=by
 obtain⟨dx,t,h1,h2,h3⟩:=r
 exact⟨dx,t,s _ _ h1,h2.same s,h3⟩
theorem mW.keep {ad:jw}{H H':Hp}{p:Addr}{xs:List V} (s:∀ b o,(∀ zs,o≠HO.lst zs)→H b=some o→H' b=some o) (r:mW ad H p xs):mW ad H' p xs:=by
 obtain⟨dx,t,h1,h2,h3⟩:=r
 exact⟨dx,t,s _ (.ins _ _ _) (fun _ z=>nomatch z) h1,h2.keep s,h3⟩
theorem TabObj.keep {ad:jw}{H H':Hp}{p:Addr}{ls:List (List V)}{w:Nat} (s:∀ b o,(∀ zs,o≠HO.lst zs)→H b=some o→H' b=some o) (r:TabObj ad H p ls w):TabObj ad H' p ls w:=by
 obtain⟨dx,t1,t2,ts,h1,h2,h3,h4,h5⟩:=r
 exact⟨dx,t1,t2,ts,s _ (.ins _ _ _) (fun _ z=>nomatch z) h1,h2.keep s,s _ (.tup _) (fun _ z=>nomatch z) h3,h4.keep (f:=.tup) fun b ys e=>s b (.tup ys) (fun _ z=>nomatch z) e,h5⟩
theorem TabObj.same {ad:jw}{H H':Hp}{p:Addr}{ls:List (List V)}{w:Nat} (s:aq H H') (r:TabObj ad H p ls w):TabObj ad H' p ls w:=by
 obtain⟨dx,t1,t2,ts,h1,h2,h3,h4,h5⟩:=r
 exact⟨dx,t1,t2,ts,s _ _ h1,h2.same s,s _ _ h3,h4.same s,h5⟩
def mn (ad:jw):Sp:=fun vs H Q _=>∃ p dx a xs c,vs=[.ref p,.ref a]∧(c=ad.Row∨c=ad.Table∨c=ad.cF)∧H p=some (.ins c dx [])∧H a=some (.lst xs)∧∀ t (o:Obj),H t=none→o.cls=.type "tuple" → o.dict=none→Q .cU (upd (upd H t (.yE o (.tup xs))) p (.ins c dx [("spot_marks",.ref t)]))
def qb (ad:jw) (H:Hp) (p:Addr) (ns:List Nd):Prop:=∃ dx t1 t2 xs,H p=some (.ins ad.cF dx [("spot_marks",.ref t1),("nodes",.ref t2)])∧zb H t1 (ns.map fun n=>V.str n.1)∧H t2=some (.tup xs)∧aO H xs ns
theorem qb.same {ad:jw}{H H':Hp}{p:Addr}{ns:List Nd} (s:aq H H') (r:qb ad H p ns):qb ad H' p ns:=by
 obtain⟨dx,t1,t2,xs,h1,h2,h3,h4⟩:=r
 exact⟨dx,t1,t2,xs,s _ _ h1,h2.same s,s _ _ h3,h4.same s⟩
def n6 (ad:jw):Sp:=fun vs H Q E=>∃ p dx v,vs=[.ref p,v]∧H p=some (.ins ad.cF dx [])∧Jn H v ∧
 (∀ a xs ns,v=.ref a→H a=some (.lst xs)→xs.length≤40→aO H xs ns→dG 0 ns→∀ H',qb ad H' p ns→SameBut p H H'→Q .cU H')∧(¬ Dg H v→∀ H',SameBut p H H'→E (.ref ad.nY) none H')
def sX:Sp:=fun vs H Q _=>∃ v,vs=[v]∧wD H v∧Q (.bl (QU v)) H
def vn:Sp:=fun vs H Q _=>∃ v,vs=[v]∧wD H v∧∀ H',aq H H'→Q (.bl (markV v)) H'
def mq (ad:jw):Sp:=fun vs H Q E=>∃ v n,vs=[v,.int (n:Nat)]∧wD H v∧(Py n H v→Q .cU H)∧(¬ Py n H v→E (.ref ad.nY) none H)
def n9 (ad:jw):Sp:=fun vs H Q E=>∃ v n,vs=[v,.int (n:Nat)]∧Ah H v∧(wU n H v→∀ H',aq H H'→Q .cU H')∧(¬ wU n H v→∀ H',aq H H'→E (.ref ad.nY) none H')
def tW (ad:jw):Sp:=fun vs H Q E=>∃ v d,vs=[v,.int d]∧FT H v∧(∀ n,ka H v n→d6 n.1=true→0≤n.2→n.2≤d→∀ H',aq H H'→Q .cU H')∧((∀ n,ka H v n→¬ (d6 n.1=true∧0≤n.2∧n.2≤d))→∀ H',aq H H'→E (.ref ad.nY) none H')
def rK (ad:jw):Sp:=fun vs H Q E=>∃ v,vs=[v]∧Jn H v∧(Dg H v→∀ H',aq H H'→Q .cU H')∧(¬ Dg H v→∀ H',aq H H'→E (.ref ad.nY) none H')
def rL (ad:jw):Sp:=fun vs H Q E=>∃ v,vs=[v]∧Jo H v∧(BZ H v→∀ H',aq H H'→Q .cU H')∧(¬ BZ H v→∀ H',aq H H'→E (.ref ad.nY) none H')
def jR (ad:jw):Sp:=fun vs H Q E=>∃ v m,vs=[v,.int m]∧Ah H v∧(yM m H v→∀ H',aq H H'→Q .cU H')∧(¬ yM m H v→∀ H',aq H H'→E (.ref ad.vj) none H')
def qc (K:PySem.W.Frag):Sp:=fun vs H Q _=>∃ (t a:Addr) (xs:List V) (ps:List Int),vs=[.ref t,.ref a]∧df K H t xs∧H a=some (.lst (ps.map V.int))∧(∀ p∈ps,0≤p∧p<xs.length)∧ps.length≤900∧∀ l,H l=none→Q (.ref l) (upd H l (.lst (ps.map fun p=>xs.getD p.toNat .cU)))
def sY (ad:jw):Sp:=fun vs H Q E=>∃ p dx v,vs=[.ref p,v]∧H p=some (.ins ad.Row dx [])∧Ah H v ∧
 (∀ a xs,v=.ref a→H a=some (.lst xs)→xs.length≤40→xs.all markV=true→∀ H',mW ad H' p xs→SameBut p H H'→Q .cU H')∧(¬ wU 40 H v→∀ H',SameBut p H H'→E (.ref ad.nY) none H')
def xp (ad:jw):Sp:=fun vs H Q _=>∃ p xs,vs=[.ref p]∧mW ad H p xs∧Q (.int xs.length) H
def qd (ad:jw):Sp:=fun vs H Q E=>∃ p v xs,vs=[.ref p,v]∧mW ad H p xs∧Ah H v ∧
 (∀ a ps,v=.ref a→H a=some (.lst (ps.map V.int))→placesOk 0 xs.length ps→∀ q H',aq H H'→mW ad H' q (ps.map fun i=>xs.getD i.toNat .cU)→Q (.ref q) H')∧(¬ yM xs.length H v→∀ H',aq H H'→E (.ref ad.vj) none H')
def Au (ad:jw):Sp:=fun vs H Q _=>∃ p ns,vs=[.ref p]∧qb ad H p ns∧Q (.int ns.length) H
def kL (ad:jw):Sp:=fun vs H Q E=>∃ (p:Addr) (v:V) (ns:List Nd),vs=[.ref p,v]∧qb ad H p ns∧dG 0 ns∧ns.length≤40∧Ah H v∧(∀ a ps,v=.ref a→H a=some (.lst (ps.map V.int))→placesOk 0 ns.length ps→∀ q H',aq H H'→qb ad H' q (eU ns ps)→Q (.ref q) H')∧(¬ yM ns.length H v→∀ H',aq H H'→E (.ref ad.vj) none H')
def pN (ad:jw):Sp:=fun vs H Q E=>∃ p dx v,vs=[.ref p,v]∧H p=some (.ins ad.Table dx [])∧Jo H v ∧
 (∀ a xs ls,v=.ref a→H a=some (.lst xs)→xs.length≤12→aN .lst H xs ls→BY ls→∀ H',TabObj ad H' p ls (yL ls)→SameBut p H H'→Q .cU H')∧(¬ BZ H v→∀ H',SameBut p H H'→E (.ref ad.nY) none H')
def tX (ad:jw):Sp:=fun vs H Q _=>∃ p ls w,vs=[.ref p]∧TabObj ad H p ls w∧Q (.int ((ls.length:Int)+(w:Int))) H
def mr (ad:jw):Sp:=fun vs H Q E=>∃ p v ls w,vs=[.ref p,v]∧TabObj ad H p ls w∧Ah H v ∧
 (∀ a ps,v=.ref a→H a=some (.lst (ps.map V.int))→placesOk 0 ((ls.length:Int)+(w:Int)) ps→∀ q H',aq H H'→TabObj ad H' q (iZ ls ps) (bB ls.length ps).length→Q (.ref q) H')∧(¬ yM ((ls.length:Int)+(w:Int)) H v→∀ H',aq H H'→E (.ref ad.vj) none H')
def iq (K:PySem.W.Frag):Sp:=fun vs H Q _=>∃ (a:Addr) (ns:List Int) (k:Nat),vs=[.ref a,.int k]∧bA K H a (ns.map V.int)∧∀ n:Int,Q (.int n) H
inductive lB where
 | row (xs:List V)
 | bJ (ns:List Nd)
 | table (ls:List (List V)) (w:Nat)
def il (ad:jw) (H:Hp) (p:Addr):lB→Prop
 | .row xs=>mW ad H p xs
 | .bJ ns=>qb ad H p ns∧dG 0 ns∧ns.length≤40
 | .table ls w=>TabObj ad H p ls w
def kM:lB→Nat
 | .row xs=>xs.length
 | .bJ ns=>ns.length
 | .table ls w=>ls.length+w
def kN:lB→List Int→lB
 | .row xs,ps=>.row (HL xs ps)
 | .bJ ns,ps=>.bJ (eU ns ps)
 | .table ls _,ps=>.table (iZ ls ps) (bB ls.length ps).length
theorem il.same {ad:jw}{H H':Hp}{p:Addr}{d:lB} (s:aq H H') (h:il ad H p d):il ad H' p d:=by
 cases d with
 | row xs=>exact mW.same s h
 | bJ ns=>exact⟨h.1.same s,h.2⟩
 | table ls w=>exact TabObj.same s h
theorem il.keep {ad:jw}{H H':Hp}{p:Addr}{d:lB} (s:∀ b o,(∀ zs,o≠HO.lst zs)→H b=some o→H' b=some o) (h:il ad H p d):il ad H' p d:=by
 cases d with
 | row xs=>exact mW.keep s h
 | bJ ns =>
  obtain⟨⟨dx,t1,t2,xs,h1,h2,h3,h4⟩,h5⟩:=h
  exact⟨⟨dx,t1,t2,xs,s _ (.ins _ _ _) (fun _ z=>nomatch z) h1,h2.keep s,s _ (.tup _) (fun _ z=>nomatch z) h3,h4.iz fun b ys e=>s b (.tup ys) (fun _ z=>nomatch z) e⟩,h5⟩
 | table ls w=>exact TabObj.keep s h
def yG:lB→Prop
 | .row xs=>xs.all markV=true∧xs.length≤40
 | .bJ ns=>dG 0 ns∧ns.length≤40
 | .table ls w=>w≤12∧ls.length≤12∧∀ l∈ls,qw w l
theorem il.ok {ad:jw}{H:Hp}{p:Addr}{d:lB} (h:il ad H p d):yG d:=by
 cases d with
 | row xs=>obtain⟨_,_,_,_,h3⟩:=h;exact h3
 | bJ ns=>exact h.2
 | table ls w=>obtain⟨_,_,_,_,_,_,_,_,h5⟩:=h;exact h5
theorem yG.many {d:lB} (h:yG d):kM d≤40:=by
 cases d with
 | row xs=>exact h.2
 | bJ ns=>exact h.2
 | table ls w=>have:=h.1;have:=h.2.1;show ls.length+w≤40;omega
theorem NQ {d:lB}{ps:List Int} (o:yG d) (hp:placesOk 0 (kM d:Nat) ps):kM (kN d ps)=ps.length:=by
 cases d with
 | row xs=>exact List.length_map _
 | bJ ns=>exact List.length_map _
 | table ls w=>show (iZ ls ps).length+(bB ls.length ps).length=ps.length;rw[Fl];exact wY ps
theorem NR {ad:jw}{H:Hp}{p:Addr}{d:lB}{ps:List Int}{Q:VK}{E:XK} (A:(V→Hp→Prop)→Prop) (h:il ad H p d) (hp:placesOk 0 (kM d:Nat) ps) (hA:∀ F:V→Hp→Prop,(∀ l H1,aq H H1→H1 l=some (.lst (ps.map V.int))→F (.ref l) H1)→A F) (k:∀ q H',aq H H'→il ad H' q (kN d ps)→Q (.ref q) H') :
  ((∃ x y,H p=some (.ins ad.Row x y)∧List.lookup (Str.ofString "left") y=none∧A fun v H1=>qd ad [.ref p,v] H1 Q E)∨∃ x y,H p=some (.ins ad.cF x y)∧List.lookup (Str.ofString "left") y=none∧A fun v H1=>kL ad [.ref p,v] H1 Q E)∨∃ x y,H p=some (.ins ad.Table x y)∧List.lookup (Str.ofString "left") y=none∧A fun v H1=>mr ad [.ref p,v] H1 Q E:=by
 have inj:∀ {H1:Hp}{l a:Addr}{qs:List Int},H1 l=some (.lst (ps.map V.int))→V.ref l=.ref a→H1 a=some (.lst (qs.map V.int))→qs=ps:=fun hl e g=>by
  cases e
  rw[hl] at g
  exact (wW (HO.lst.inj (Option.some.inj g))).symm
 cases d with
 | row xs =>
  obtain⟨dx,t,h1,_⟩:=id h
  exact .inl (.inl ⟨dx,_,h1,rfl,hA _ fun l H1 s1 hl=>⟨p,.ref l,xs,rfl,mW.same s1 h,A6 hl,fun a qs e g _ q H' s r=>k q H' (s1.trans s) (by have:=inj hl e g;subst this;exact r),fun nb=>absurd ⟨l,ps,rfl,hl,hp⟩ nb⟩⟩)
 | bJ ns =>
  obtain⟨⟨dx,t1,t2,xs,h1,_⟩,o1,o2⟩:=id h
  have yK:placesOk 0 (ns.length:Int) ps:=hp
  have Rk:=places_len yK (by omega)
  exact .inl (.inr ⟨dx,_,h1,cX (by decide +kernel) (by decide +kernel),hA _ fun l H1 s1 hl=>⟨p,.ref l,ns,rfl,h.1.same s1,o1,o2,A6 hl,fun a qs e g _ q H' s r=>k q H' (s1.trans s) (by have:=inj hl e g;subst this;exact⟨r,CQ o1 yK,by unfold eU;rw[List.length_map];omega⟩),fun nb=>absurd ⟨l,ps,rfl,hl,hp⟩ nb⟩⟩)
 | table ls w =>
  obtain⟨dx,t1,t2,ts,h1,_⟩:=id h
  have e:((kM (.table ls w):Nat):Int)=(ls.length:Int)+(w:Int):=by show ((ls.length+w:Nat):Int)=_;omega
  rw[e] at hp
  exact .inr ⟨dx,_,h1,y8 (by decide +kernel) (by decide +kernel) (by decide +kernel),hA _ fun l H1 s1 hl=>⟨p,.ref l,ls,w,rfl,TabObj.same s1 h,A6 hl,fun a qs e g _ q H' s r=>k q H' (s1.trans s) (by have:=inj hl e g;subst this;exact r),fun nb=>absurd ⟨l,ps,rfl,hl,hp⟩ nb⟩⟩
theorem JD {d:lB}{ps qs:List Int} (o:yG d) (hp:placesOk 0 (kM d:Nat) ps) (hq:placesOk 0 ps.length qs):kN (kN d ps) qs=kN d (both ps qs):=by
 cases d with
 | row xs=>exact congrArg lB.row (Ju hq)
 | bJ ns=>exact congrArg lB.bJ (Jv o.1 hp hq)
 | table ls w =>
  obtain⟨e1,e2⟩:=Jw (ls:=ls) hp hq
  show lB.table (iZ (iZ ls ps) qs) (bB (iZ ls ps).length qs).length=lB.table (iZ ls (both ps qs)) (bB ls.length (both ps qs)).length
  rw[e1,e2]
def bj:lB→List V
 | .row xs=>xs
 | .bJ ns=>ns.map fun n=>V.str n.1
 | .table ls _=>ls.flatten
def rM (d:lB) (m:Str):Nat:=(bj d).countP (kC m)
def Rl (d:lB) (m:Str):List Int:=match d with
 | .row xs=>idxs (kC m) 0 xs
 | .bJ ns=>idxs (kC m) 0 (ns.map fun n=>V.str n.1)
 | .table ls _=>idxs (fun l=>SF (.str m) l) 0 ls
def bH (ns:List Nd) (k:Nat):Nat:=((ns.drop (k+1)).takeWhile fun n=>decide ((ns.getD k ("",0)).2<n.2)).length
def sZ (ns:List Nd) (k:Nat):List Int:=(List.range (bH ns k+1)).map fun i:Nat=>(k:Int)+(i:Int)
theorem PR {α:Type}{P:α→Bool}:∀ {l:List α}{j:Nat},j<(l.takeWhile P).length→∃ x,l[j]? = some x∧P x=true
 | [],j,h=>by simp at h
 | x::l,j,h=>by
  rw[List.takeWhile_cons] at h
  cases hx:P x with
  | false=>rw[hx] at h;simp at h
  | true =>
   rw[hx] at h
   cases j with
   | zero=>exact⟨x,rfl,hx⟩
   | succ j=>exact PR (l:=l) (by simpa using h)
theorem Ls {α:Type}{P:α→Bool}:∀ {l:List α}{x:α},l[(l.takeWhile P).length]? = some x→P x=false
 | [],x,h=>by simp at h
 | y::l,x,h=>by
  rw[List.takeWhile_cons] at h
  cases hy:P y with
  | false=>rw[hy] at h;simp at h;rw[←h];exact hy
  | true=>rw[hy] at h;exact Ls (l:=l) (by simpa using h)
theorem CS {ns:List Nd}{k j:Nat} (h:j<bH ns k):∃ n,ns[k+1+j]? = some n∧(ns.getD k ("",0)).2<n.2:=by
 obtain⟨n,h1,h2⟩:=PR h
 rw[List.getElem?_drop] at h1
 exact⟨n,h1,of_decide_eq_true h2⟩
theorem Bd {ns:List Nd}{k:Nat}{n:Nd} (h:ns[k+1+bH ns k]? = some n):¬ (ns.getD k ("",0)).2<n.2:=by
 have h1:=Ls (l:=ns.drop (k+1)) (P:=fun n=>decide ((ns.getD k ("",0)).2<n.2)) (x:=n) (by rw[List.getElem?_drop];exact h)
 exact of_decide_eq_false h1
theorem yA (ns:List Nd) (k:Nat):bH ns k≤ns.length-(k+1):=by
 unfold bH
 refine Nat.le_trans (List.takeWhile_sublist _).length_le ?_
 rw[List.length_drop]
 exact Nat.le_refl _
theorem xq {xs:List V} (h:xs.all markV=true):xs.all rl=true:=by
 rw[List.all_eq_true] at h ⊢
 intro x hx
 have:=h x hx
 cases x with
 | str z=>rfl
 | _=>exact nomatch (show false=true from this)
theorem uM {x:V} (h:markV x=true):∃ z,x=.str z:=by
 cases x with
 | str z=>exact⟨z,rfl⟩
 | _=>exact nomatch (show false=true from h)
theorem Av {α:Type}{P:α→Bool}:∀ {xs:List α}{k:Nat}{p:Int},p∈idxs P k xs↔∃ n x,p=((k+n:Nat):Int)∧xs[n]? = some x∧P x=true
 | [],k,p=>by
  constructor
  ·intro h
   exact nomatch (show p∈([]:List Int) from h)
  ·rintro⟨n,x,_,h,_⟩
   simp at h
 | x::xs,k,p=>by
  show p∈(if P x then [(k:Int)] else [])++idxs P (k+1) xs↔_
  rw[List.mem_append,Av (xs:=xs)]
  constructor
  ·rintro (h | ⟨n,y,h1,h2,h3⟩)
   ·cases hx:P x with
    | false=>rw[hx] at h;simp at h
    | true=>rw[hx] at h;simp at h;exact⟨0,x,by rw[h,Nat.add_zero],rfl,hx⟩
   ·exact⟨n+1,y,by rw[h1,show k+1+n=k+(n+1) by omega],h2,h3⟩
  ·rintro⟨n,y,h1,h2,h3⟩
   cases n with
   | zero =>
    have RU:some x=some y:=h2
    cases RU
    exact .inl (by rw[h3,if_pos rfl,h1,Nat.add_zero];simp)
   | succ n=>exact .inr ⟨n,y,by rw[h1,show k+1+n=k+(n+1) by omega],h2,h3⟩
theorem tY {α:Type}{f:α→Bool}{xs:List α}{i:Nat}{x:α} (hx:xs[i]? = some x) (h:(xs.take i).any f=false) (hf:f x=false):(xs.take (i+1)).any f=false:=by
 rw[List.take_add_one,hx,List.any_append,h]
 show (false||(f x||false))=false
 rw[hf]
 rfl
theorem F8 {σ:St}{H:Hp}{A B:Hp→Prop} (h:A H):wQ σ H fun b H3=>if b=true then A H3 else B H3:=by
 show if (true:Bool)=true then A H else B H
 rw[if_pos rfl]
 exact h
theorem vo (m z:Str):kC m (.str z)=decide (z=m):=by
 show (z==m)=decide (z=m)
 by_cases h:z=m<;>simp [h]
theorem F9 {H H':Hp}{a:Addr}{u:HO} (s:aq H H') (h:Rd H a u):Rd H' a u:=h.elim (fun h=>.inl (s _ _ h)) fun⟨o,h⟩=>.inr ⟨o,s _ _ h⟩
theorem mw {wi:TI}{σ:St}{H:Hp}{G:It→Hp→Prop} (S:It→Hp→Prop) (h:∀ G':It→Hp→Prop,(∀ J H1,S J H1→G' J H1)→wi σ H G') (g:∀ J H1,S J H1→G J H1):wi σ H G:=h _ g
def cW (one other:Str):List V→Bool
 | []=>false
 | x::xs=>(kC one x&&xs.any (kC other))||cW one other xs
theorem mz (one other:Str):∀ xs ys:List V,cW one other (xs++ys)=(cW one other xs||(xs.any (kC one)&&ys.any (kC other))||cW one other ys)
 | [],ys=>by simp [cW]
 | x::xs,ys=>by
  show ((kC one x&&(xs++ys).any (kC other))||cW one other (xs++ys))=(((kC one x&&xs.any (kC other))||cW one other xs)||((x::xs).any (kC one)&&ys.any (kC other))||cW one other ys)
  rw[mz one other xs ys,List.any_append,List.any_cons]
  cases kC one x<;>cases xs.any (kC other)<;>cases ys.any (kC other)<;>cases cW one other xs<;>cases xs.any (kC one)<;>cases cW one other ys<;>rfl
def Aw (one other:Str) (xs:List V):Bool:=(xs.zip (xs.drop 1)).any fun p=>kC one p.1&&kC other p.2
def ip (ns:List Nd):List V:=ns.map fun n=>V.str n.1
theorem zk {ns:List Nd}{n:Nat} (h:n<ns.length):(ip ns).getD n .cU=.str (ns.getD n ("",0)).1:=by
 unfold ip
 rw[List.getD_eq_getElem?_getD,List.getElem?_map,List.getD_eq_getElem?_getD,List.getElem?_eq_getElem h]
 rfl
theorem Ii {ns:List Nd}{k:Nat}{q:Int} (hk:k<ns.length) (h:q∈sZ ns k):∃ i:Nat,q=((k+i:Nat):Int)∧i≤bH ns k∧k+i<ns.length:=by
 unfold sZ at h
 obtain⟨i,hi,rfl⟩:=List.mem_map.mp h
 have:=List.mem_range.mp hi
 have:=yA ns k
 exact⟨i,by omega,by omega,by omega⟩
theorem NS (ns:List Nd) (k:Nat):(sZ ns k).length=bH ns k+1:=by
 unfold sZ
 rw[List.length_map,List.length_range]
theorem Mv (ns:List Nd) (k:Nat):qr ((sZ ns k).map V.int) (-1)=some (.int ((k:Int)+(bH ns k:Int))):=by
 unfold sZ
 rw[List.range_succ,List.map_append,List.map_append]
 exact Hd _ _
theorem NT (a b:Str) (i j:Int):PyData.eqv (.tuple [.str a,.int i]) (.tuple [.str b,.int j])=decide (a=b∧i=j):=by
 simp only[PyData.eqv,PyData.eqvAll,Bool.and_true]
 by_cases h1:a=b<;>by_cases h2:i=j<;>simp [h1,h2]
theorem Cb {a:Str} (h:PyData.strOk a=true) (i:Int):SeqAt.shaped (.tuple [.str a,.int i])=true:=by
 unfold SeqAt.shaped
 rw[Bool.and_eq_true]
 refine⟨by simp only[PyData.canLay0,PyData.canLayAll0,h,Bool.and_self],decide_eq_true ?_⟩
 simp only[PyData.depth,PyData.depthAll]
 omega
def zm (one other:Str) (ns:List Nd):Bool:=(idxs (kC one) 0 (ip ns)).any fun p=>SF (.str other) (((sZ ns p.toNat).drop 1).map fun q=>(ip ns).getD q.toNat .cU)
def CT (one other:Str) (ns:List Nd):Bool:=(idxs (kC one) 0 (ip ns)).any fun p=>decide (p.toNat+bH ns p.toNat+1<ns.length)&&decide (ns.getD (p.toNat+bH ns p.toNat+1) ("",0)=(other,(ns.getD p.toNat ("",0)).2))
def zo (one other:Str) (ls:List (List V)) (w:Nat):Bool:=(List.range w).any fun c=>cW one other (ls.map fun l=>l.getD c .cU)
abbrev Spot:=Str×Int×Int
def Wy:V→Str
 | .str z=>z
 | _ => ""
def JE (n:Nat):List (Nat×Nat):=((List.range n).map fun e=>(List.range (n-(e+1))).map fun j=>(e,e+1+j)).flatten
def Ga (n i:Nat):List (Nat×Nat):=((List.range i).map fun e=>(List.range (n-(e+1))).map fun j=>(e,e+1+j)).flatten
theorem Ij (n i:Nat):Ga n (i+1)=Ga n i++(List.range (n-(i+1))).map fun j=>(i,i+1+j):=by
 unfold Ga
 rw[List.range_succ,List.map_append,List.flatten_append,List.map_cons,List.map_nil,List.flatten_cons,List.flatten_nil,List.append_nil]
theorem NU (n:Nat):∀ i,(Ga n i).length≤i*n
 | 0=>by simp [Ga]
 | i+1=>by
  have:=NU n i
  rw[Ij,List.length_append,List.length_map,List.length_range,Nat.add_mul,Nat.one_mul]
  omega
theorem Ax {w:Nat}:∀ {ls:List (List V)},(∀ l∈ls,qw w l)→ls.flatten.length=ls.length*w
 | [],_=>by simp
 | l::ls,h=>by
  rw[List.flatten_cons,List.length_append,Ax fun m hm=>h m (List.mem_cons_of_mem _ hm),(h l List.mem_cons_self).1,List.length_cons,Nat.add_mul,Nat.one_mul,Nat.add_comm]
inductive Tm where
 | has (m:Str)
 | many (k:Int) (m:Str)
 | pair (w a b:Str)
 | gq (b:Bool) (ps:List Tm)
 | not (p:Tm)
def wJ (b:Bool):Str:=if b then "all" else "any"
mutual
def wB:Tm→Nat
 | .has _=>0
 | .many _ _=>0
 | .pair _ _ _=>0
 | .gq _ ps=>yB ps+1
 | .not p=>wB p+1
def yB:List Tm→Nat
 | []=>0
 | p::ps=>max (wB p) (yB ps)
end
def Lu (w:Str):Prop:=w = "before" ∨ w = "under" ∨ w = "beside"
mutual
def ma:Tm→Prop
 | .has m=>d6 m=true
 | .many _ m=>d6 m=true
 | .pair w a b=>Lu w∧d6 a=true∧d6 b=true
 | .gq _ ps=>ps.length≤10∧Cc ps
 | .not p=>ma p
def Cc:List Tm→Prop
 | []=>True
 | p::ps=>ma p∧Cc ps
end
mutual
def gA (H:Hp):V→Tm→Prop
 | v,.has m=>∃ a,v=.ref a∧H a=some (.tup [.str "has",.str m])
 | v,.many k m=>∃ a,v=.ref a∧H a=some (.tup [.str "many",.int k,.str m])
 | v,.pair w x y=>∃ a,v=.ref a∧H a=some (.tup [.str w,.str x,.str y])
 | v,.gq b ps=>∃ a xs,v=.ref a∧H a=some (.tup (.str (wJ b)::xs))∧aY H xs ps
 | v,.not p=>∃ a x,v=.ref a∧H a=some (.tup [.str "not",x])∧gA H x p
def aY (H:Hp):List V→List Tm→Prop
 | [],[]=>True
 | x::xs,p::ps=>gA H x p∧aY H xs ps
 | [],_::_=>False
 | _::_,[]=>False
end
def tZ (ad:jw) (w:Str):Addr:=if w = "before" then ad.iP else if w = "under" then ad.Under else ad.iQ
def EH (ad:jw) (b:Bool):Addr:=if b then ad.All else ad.Any
mutual
def eB (ad:jw) (H:Hp):V→Tm→Prop
 | v,.has m=>∃ a dx,v=.ref a∧H a=some (.ins ad.Fn dx [("mark",.str m)])
 | v,.many k m=>∃ a dx,v=.ref a∧H a=some (.ins ad.rG dx [("number",.int k),("mark",.str m)])
 | v,.pair w x y=>∃ a dx,v=.ref a∧H a=some (.ins (tZ ad w) dx [("one",.str x),("other",.str y)])
 | v,.gq b ps=>∃ a dx t xs,v=.ref a∧H a=some (.ins (EH ad b) dx [("parts",.ref t)])∧H t=some (.tup xs)∧fA ad H xs ps
 | v,.not p=>∃ a dx x,v=.ref a∧H a=some (.ins ad.Not dx [("part",x)])∧eB ad H x p
def fA (ad:jw) (H:Hp):List V→List Tm→Prop
 | [],[]=>True
 | x::xs,p::ps=>eB ad H x p∧fA ad H xs ps
 | [],_::_=>False
 | _::_,[]=>False
end
mutual
theorem gA.iz {H H':Hp} (s:∀ b ys,H b=some (.tup ys)→H' b=some (.tup ys)):∀ {v:V}{tm:Tm},gA H v tm→gA H' v tm
 | _,.has _,h=>by unfold gA at h ⊢;obtain⟨a,e,h⟩:=h;exact⟨a,e,s _ _ h⟩
 | _,.many _ _,h=>by unfold gA at h ⊢;obtain⟨a,e,h⟩:=h;exact⟨a,e,s _ _ h⟩
 | _,.pair _ _ _,h=>by unfold gA at h ⊢;obtain⟨a,e,h⟩:=h;exact⟨a,e,s _ _ h⟩
 | _,.gq _ _,h=>by unfold gA at h ⊢;obtain⟨a,xs,e,h,r⟩:=h;exact⟨a,xs,e,s _ _ h,aY.iz s r⟩
 | _,.not _,h=>by unfold gA at h ⊢;obtain⟨a,x,e,h,r⟩:=h;exact⟨a,x,e,s _ _ h,gA.iz s r⟩
theorem aY.iz {H H':Hp} (s:∀ b ys,H b=some (.tup ys)→H' b=some (.tup ys)):∀ {vs:List V}{ps:List Tm},aY H vs ps→aY H' vs ps
 | [],[],_=>by unfold aY;trivial
 | _::_,_::_,h=>by unfold aY at h ⊢;exact⟨gA.iz s h.1,aY.iz s h.2⟩
 | [],_::_,h=>by unfold aY at h;exact h.elim
 | _::_,[],h=>by unfold aY at h;exact h.elim
end
theorem gA.same {H H':Hp} (s:aq H H') {v:V}{tm:Tm} (h:gA H v tm):gA H' v tm:=h.iz fun b ys e=>s b _ e
theorem aY.same {H H':Hp} (s:aq H H') {vs:List V}{ps:List Tm} (h:aY H vs ps):aY H' vs ps:=h.iz fun b ys e=>s b _ e
theorem qe {H:Hp}{p:Addr}{xs:List V}{o:HO} (h:H p=some (.lst xs)):∀ b ys,H b=some (.tup ys)→upd H p o b=some (.tup ys):=fun b ys e=>by
 rw[aF fun q=>by rw[q,h] at e;cases e]
 exact e
theorem aY.take {H:Hp}:∀ {vs:List V}{ps:List Tm} (i:Nat),aY H vs ps→aY H (vs.take i) (ps.take i)
 | [],[],i,h=>by rw[List.take_nil,List.take_nil];exact h
 | x::xs,p::ps,0,_=>by show aY H [] [];unfold aY;trivial
 | x::xs,p::ps,i+1,h=>by
  show aY H (x::xs.take i) (p::ps.take i)
  unfold aY at h ⊢
  exact⟨h.1,aY.take i h.2⟩
 | [],_::_,_,h=>by unfold aY at h;exact h.elim
 | _::_,[],_,h=>by unfold aY at h;exact h.elim
theorem aY.drop {H:Hp}:∀ {vs:List V}{ps:List Tm} (i:Nat),aY H vs ps→aY H (vs.drop i) (ps.drop i)
 | [],[],i,h=>by rw[List.drop_nil,List.drop_nil];exact h
 | x::xs,p::ps,0,h=>h
 | x::xs,p::ps,i+1,h=>by
  show aY H (xs.drop i) (ps.drop i)
  unfold aY at h
  exact aY.drop i h.2
 | [],_::_,_,h=>by unfold aY at h;exact h.elim
 | _::_,[],_,h=>by unfold aY at h;exact h.elim
mutual
theorem eB.same {ad:jw}{H H':Hp} (s:aq H H'):∀ {v:V}{tm:Tm},eB ad H v tm→eB ad H' v tm
 | _,.has _,h=>by unfold eB at h ⊢;obtain⟨a,dx,e,h⟩:=h;exact⟨a,dx,e,s _ _ h⟩
 | _,.many _ _,h=>by unfold eB at h ⊢;obtain⟨a,dx,e,h⟩:=h;exact⟨a,dx,e,s _ _ h⟩
 | _,.pair _ _ _,h=>by unfold eB at h ⊢;obtain⟨a,dx,e,h⟩:=h;exact⟨a,dx,e,s _ _ h⟩
 | _,.gq _ _,h=>by unfold eB at h ⊢;obtain⟨a,dx,t,xs,e,h,h2,r⟩:=h;exact⟨a,dx,t,xs,e,s _ _ h,s _ _ h2,fA.same s r⟩
 | _,.not _,h=>by unfold eB at h ⊢;obtain⟨a,dx,x,e,h,r⟩:=h;exact⟨a,dx,x,e,s _ _ h,eB.same s r⟩
theorem fA.same {ad:jw}{H H':Hp} (s:aq H H'):∀ {vs:List V}{ps:List Tm},fA ad H vs ps→fA ad H' vs ps
 | [],[],_=>by unfold fA;trivial
 | _::_,_::_,h=>by unfold fA at h ⊢;exact⟨eB.same s h.1,fA.same s h.2⟩
 | [],_::_,h=>by unfold fA at h;exact h.elim
 | _::_,[],h=>by unfold fA at h;exact h.elim
end
theorem aY.get {H:Hp}:∀ {vs:List V}{ps:List Tm}{i:Nat}{v:V},aY H vs ps→vs[i]? = some v→∃ p,ps[i]? = some p∧gA H v p
 | x::xs,p::ps,0,v,h,e=>by unfold aY at h;cases e;exact⟨p,rfl,h.1⟩
 | x::xs,p::ps,i+1,v,h,e=>by unfold aY at h;exact aY.get (vs:=xs) (ps:=ps) (i:=i) h.2 (show xs[i]? = some v from e)
 | [],_,i,v,h,e=>by simp at e
 | _::_,[],i,v,h,e=>by unfold aY at h;exact h.elim
theorem aY.length {H:Hp}:∀ {vs:List V}{ps:List Tm},aY H vs ps→vs.length=ps.length
 | [],[],_=>rfl
 | x::xs,p::ps,h=>by unfold aY at h;rw[List.length_cons,List.length_cons,aY.length h.2]
 | [],_::_,h=>by unfold aY at h;exact h.elim
 | _::_,[],h=>by unfold aY at h;exact h.elim
theorem aY.snoc {H:Hp}:∀ {vs:List V}{ps:List Tm}{v:V}{p:Tm},aY H vs ps→gA H v p→aY H (vs++[v]) (ps++[p])
 | [],[],v,p,_,h=>by show aY H [v] [p];unfold aY;exact⟨h,by unfold aY;trivial⟩
 | x::xs,q::ps,v,p,h,h2=>by
  show aY H (x::(xs++[v])) (q::(ps++[p]))
  unfold aY at h ⊢
  exact⟨h.1,aY.snoc h.2 h2⟩
 | [],_::_,_,_,h,_=>by unfold aY at h;exact h.elim
 | _::_,[],_,_,h,_=>by unfold aY at h;exact h.elim
theorem fA.get {ad:jw}{H:Hp}:∀ {vs:List V}{ps:List Tm}{i:Nat}{v:V},fA ad H vs ps→vs[i]? = some v→∃ p,ps[i]? = some p∧eB ad H v p
 | x::xs,p::ps,0,v,h,e=>by unfold fA at h;cases e;exact⟨p,rfl,h.1⟩
 | x::xs,p::ps,i+1,v,h,e=>by unfold fA at h;exact fA.get (vs:=xs) (ps:=ps) (i:=i) h.2 (show xs[i]? = some v from e)
 | [],_,i,v,h,e=>by simp at e
 | _::_,[],i,v,h,e=>by unfold fA at h;exact h.elim
theorem fA.length {ad:jw}{H:Hp}:∀ {vs:List V}{ps:List Tm},fA ad H vs ps→vs.length=ps.length
 | [],[],_=>rfl
 | x::xs,p::ps,h=>by unfold fA at h;rw[List.length_cons,List.length_cons,fA.length h.2]
 | [],_::_,h=>by unfold fA at h;exact h.elim
 | _::_,[],h=>by unfold fA at h;exact h.elim
theorem fA.snoc {ad:jw}{H:Hp}:∀ {vs:List V}{ps:List Tm}{v:V}{p:Tm},fA ad H vs ps→eB ad H v p→fA ad H (vs++[v]) (ps++[p])
 | [],[],v,p,_,h=>by show fA ad H [v] [p];unfold fA;exact⟨h,by unfold fA;trivial⟩
 | x::xs,q::ps,v,p,h,h2=>by
  show fA ad H (x::(xs++[v])) (q::(ps++[p]))
  unfold fA at h ⊢
  exact⟨h.1,fA.snoc h.2 h2⟩
 | [],_::_,_,_,h,_=>by unfold fA at h;exact h.elim
 | _::_,[],_,_,h,_=>by unfold fA at h;exact h.elim
theorem i3:∀ {ps:List Tm}{p:Tm},p∈ps→wB p≤yB ps
 | q::ps,p,h=>by
  unfold yB
  rcases List.mem_cons.mp h with rfl | h
  ·exact Nat.le_max_left _ _
  ·exact Nat.le_trans (i3 h) (Nat.le_max_right _ _)
theorem i4:∀ {ps:List Tm}{p:Tm},Cc ps→p∈ps→ma p
 | q::ps,p,o,h=>by
  unfold Cc at o
  rcases List.mem_cons.mp h with rfl | h
  ·exact o.1
  ·exact i4 o.2 h
theorem xt:∀ {ps:List Tm},(∀ p∈ps,ma p)→Cc ps
 | [],_=>by unfold Cc;trivial
 | q::ps,h=>by unfold Cc;exact⟨h q List.mem_cons_self,xt fun p hp=>h p (List.mem_cons_of_mem _ hp)⟩
theorem xu {n:Nat}:∀ {ps:List Tm},(∀ p∈ps,wB p≤n)→yB ps≤n
 | [],_=>by unfold yB;exact Nat.zero_le _
 | q::ps,h=>by unfold yB;exact Nat.max_le.mpr ⟨h q List.mem_cons_self,xu fun p hp=>h p (List.mem_cons_of_mem _ hp)⟩
theorem Dv {H:Hp}{vs:List V}{oO:List Tm}{n k:Nat}{b:Bool}{q:Addr} (h:aY H vs oO) (n10:n≤10) (hn:n≤vs.length) (ok:Cc oO) (dp:yB oO≤k) (hq:H q=some (.tup (.str (wJ b)::vs.drop (vs.length-n)))) :
  ∃ oa,aY H (vs.take (vs.length-n)++[.ref q]) oa∧Cc oa∧yB oa≤k+1:=by
 have hl:=h.length
 refine⟨oO.take (vs.length-n)++[.gq b (oO.drop (vs.length-n))],(h.take _).snoc (by unfold gA;exact⟨q,_,rfl,hq,h.drop _⟩),xt fun p hp=>?_,xu fun p hp=>?_⟩
 ·rcases List.mem_append.mp hp with h1 | h1
  ·exact i4 ok (List.mem_of_mem_take h1)
  ·rw[List.mem_singleton.mp h1]
   unfold ma
   exact⟨by rw[List.length_drop];omega,xt fun p hp=>i4 ok (List.mem_of_mem_drop hp)⟩
 ·rcases List.mem_append.mp hp with h1 | h1
  ·have:=i3 (List.mem_of_mem_take h1)
   omega
  ·rw[List.mem_singleton.mp h1]
   unfold wB
   have:yB (oO.drop (vs.length-n))≤k:=xu fun p hp=>Nat.le_trans (i3 (List.mem_of_mem_drop hp)) dp
   omega
theorem zp {H:Hp}{vs:List V}{oO:List Tm}{k:Nat}{v:V}{tm:Tm} (h:aY H vs oO) (ok:Cc oO) (dp:yB oO≤k) (ht:gA H v tm) (o:ma tm) (d:wB tm≤k) :
  ∃ oa,aY H (vs++[v]) oa∧Cc oa∧yB oa≤k:=by
 refine⟨oO++[tm],h.snoc ht,xt fun p hp=>?_,xu fun p hp=>?_⟩
 ·rcases List.mem_append.mp hp with h1 | h1
  ·exact i4 ok h1
  ·rw[List.mem_singleton.mp h1];exact o
 ·rcases List.mem_append.mp hp with h1 | h1
  ·exact Nat.le_trans (i3 h1) dp
  ·rw[List.mem_singleton.mp h1];exact d
theorem JF {H:Hp}{vs:List V}{oO:List Tm}{k:Nat} (h:aY H vs oO) (ok:Cc oO) (dp:yB oO≤k) (i:Nat):∃ oa,aY H (vs.take i) oa∧Cc oa∧yB oa≤k :=
 ⟨oO.take i,h.take i,xt fun p hp=>i4 ok (List.mem_of_mem_take hp),xu fun p hp=>Nat.le_trans (i3 (List.mem_of_mem_take hp)) dp⟩
theorem NV {B:TS}{D:Ends}{σ:St}{H:Hp} (h:∀ D0:Ends,D0.nx=D.nx→B D0 σ H):B D σ H:=h D rfl
theorem t8 {H:Hp}{x dx C:Addr}{fs:List (Str×V)} (hx:H x=none) (vp:H dx=none) (sN:dx≠x):aq H (upd (upd H dx (.own x)) x (.ins C dx fs)):=(aq.put vp).upd (by rw[aF (Ne.symm sN)];exact hx)
theorem Lv {H:Hp}{z dx C t:Addr}{fs:List (Str×V)}{o o':HO} (hz:H z=none) (vp:H dx=none) (sN:dx≠z) (ht:(upd (upd H dx (.own z)) z (.ins C dx fs)) t=none):aq H (upd (upd (upd (upd H dx (.own z)) z (.ins C dx fs)) t o) z o'):=fun b ob hb=>by
 have h2:=(t8 (C:=C) (fs:=fs) hz vp sN) b ob hb
 rw[aF (aG hb hz),aF (aG h2 ht)]
 exact h2
theorem Wz (n:Nat):HT.kr (n+1) 0 (some 1)=1:=by
 have:=HT.yw (n+1) 0 1
 rw[show (((1:Nat):Int))=1 from rfl] at this
 rw[this]
 omega
theorem Ik {n:Nat}{P:Prop}:¬ (HT.kr (n+1) 0 (some 1)=0∧P):=fun h=>by
 rw[Wz] at h
 exact absurd h.1 (by decide)
theorem Pa {xs:List V}{j:Nat}{i:Int} (hi:i=(j:Int)) (h:j≤xs.length):tP xs none (some i)=xs.take j:=by
 subst hi
 unfold tP
 rw[HT.yw,HT.C7,Nat.min_eq_left h,List.drop_zero,Nat.sub_zero]
theorem TQ (x:V) (xs:List V):tP (x::xs) (some 1) none=xs:=Dk (n:=1) rfl
def eE:lB→Int
 | .row _=>0
 | .bJ _=>1
 | .table _ _=>2
def oZ (H:Hp) (l:Addr):lB→Prop
 | .row xs=>H l=some (.lst xs)
 | .bJ ns=>∃ ts,H l=some (.lst ts)∧aO H ts ns
 | .table ls w=>∃ ys,H l=some (.lst ys)∧aN .lst H ys ls∧w=yL ls
theorem oZ.same {H H':Hp}{l:Addr}{d:lB} (s:aq H H') (h:oZ H l d):oZ H' l d:=by
 cases d with
 | row xs=>exact s _ _ h
 | bJ ns=>obtain⟨ts,h1,h2⟩:=h;exact⟨ts,s _ _ h1,h2.same s⟩
 | table ls w=>obtain⟨ys,h1,h2,h3⟩:=h;exact⟨ys,s _ _ h1,h2.same s,h3⟩
def sP (d:lB) (w:Str) (e l:Nat):Bool:=if w = "before" then true else match d with
 | .row _=>decide (w = "beside")&&decide (l=e+1)
 | .bJ ns=>if w = "under" then decide (l<e+bH ns e+1) else decide (l=e+bH ns e+1)&&decide ((ns.getD l ("",0)).2=(ns.getD e ("",0)).2)
 | .table _ wd=>if w = "under" then decide ((l-e) % wd=0) else decide (l=e+1)&&decide (0<l % wd)
def t9 (d:lB) (w:Str) (ps:List (Nat×Nat)):List (List V):=(ps.filter fun p=>sP d w p.1 p.2).map fun p=>[(bj d).getD p.1 .cU,(bj d).getD p.2 .cU]
def Dw (d:lB) (w:Str):List (List V):=t9 d w (JE (bj d).length)
theorem Il (d:lB) (w:Str) (ps:List (Nat×Nat)) (e l:Nat):t9 d w (ps++[(e,l)])=t9 d w ps++(if sP d w e l=true then [[(bj d).getD e .cU,(bj d).getD l .cU]] else []):=by
 unfold t9
 rw[List.filter_append,List.map_append]
 congr 1
 rw[List.filter_cons,List.filter_nil]
 show List.map _ (if sP d w e l=true then [(e,l)] else [])=_
 cases h:sP d w e l with
 | true=>rfl
 | false=>rfl
theorem Dx (d:lB) (w:Str) (ps:List (Nat×Nat)):(t9 d w ps).length≤ps.length:=by
 unfold t9
 rw[List.length_map]
 exact List.length_filter_le _ _
theorem Im {d:lB} (o:yG d):(bj d).length≤144:=by
 cases d with
 | row xs=>have:=o.2;show xs.length≤144;omega
 | bJ ns=>have:=o.2;show (ns.map fun n=>V.str n.1).length≤144;rw[List.length_map];omega
 | table ls w=>show ls.flatten.length≤144;rw[Ax o.2.2];exact Nat.mul_le_mul o.2.1 o.1
theorem NW {w:Nat}{ls:List (List V)} (XH:w≤12) (h:∀ x∈ls,qw w x) (hl:ls.length≤12):yG (.table ls (yL ls)):=by
 cases ls with
 | nil=>exact⟨Nat.zero_le _,hl,fun _ z=>(nomatch z)⟩
 | cons x r =>
  have e:yL (x::r)=w:=(h x List.mem_cons_self).1
  rw[e]
  exact⟨XH,hl,h⟩
theorem NX {xs:List V}{a s:Nat}{i j:Int} (hi:i=(a:Int)) (hj:j=((a+s:Nat):Int)) (h:a+s≤xs.length):tP xs (some i) (some j)=(xs.drop a).take s:=by
 subst hi hj
 unfold tP
 rw[HT.yw,HT.yw,Nat.min_eq_left h,Nat.min_eq_left (by omega),Nat.add_sub_cancel_left]
def vq (K:PySem.W.Frag):Sp:=fun vs H Q _=>∃ (t:Addr) (xs:List V) (m:Str),vs=[.ref t,.str m]∧df K H t xs∧xs.all markV=true∧xs.length≤900∧∀ l H',H l=none→aq H H'→H' l=some (.lst ((idxs (kC m) 0 xs).map V.int))→Q (.ref l) H'
def jA (ad:jw):Sp:=fun vs H Q _=>∃ (p:Addr) (ns:List Nd) (m:Str),vs=[.ref p,.str m]∧il ad H p (.bJ ns)∧∀ l H',H l=none→aq H H'→H' l=some (.lst ((Rl (.bJ ns) m).map V.int))→Q (.ref l) H'
def kj (ad:jw):Sp:=fun vs H Q _=>∃ (p:Addr) (ns:List Nd) (k:Nat),vs=[.ref p,.int k]∧il ad H p (.bJ ns)∧k<ns.length∧∀ l H',H l=none→aq H H'→H' l=some (.lst ((sZ ns k).map V.int))→Q (.ref l) H'
def mO (K:PySem.W.Frag):Sp:=fun vs H Q _=>∃ (t:Addr) (xs:List V) (one other:Str),vs=[.ref t,.str one,.str other]∧(bA K H t xs∨df K H t xs)∧xs.all markV=true∧Q (.bl (cW one other xs)) H
def ik:Sp:=fun vs H Q _=>∃ (t:Addr) (xs:List V) (one other:Str),vs=[.ref t,.str one,.str other]∧Rd H t (.tup xs)∧xs.all markV=true∧xs.length≤900∧∀ H',aq H H'→Q (.bl (Aw one other xs)) H'
def lD (ad:jw):Sp:=fun vs H Q _=>∃ (p:Addr) (d:lB) (one other:Str),vs=[.ref p,.str one,.str other]∧il ad H p d∧Q (.bl (cW one other (bj d))) H
def mP:Sp:=fun vs H Q _=>∃ (p a b:V),vs=[p,a,b]∧Q (.bl false) H
def lE (ad:jw):Sp:=fun vs H Q _=>∃ (p:Addr) (xs:List V) (one other:Str),vs=[.ref p,.str one,.str other]∧mW ad H p xs∧∀ H',aq H H'→Q (.bl (Aw one other xs)) H'
def jB (ad:jw):Sp:=fun vs H Q _=>∃ (p:Addr) (ns:List Nd) (one other:Str),vs=[.ref p,.str one,.str other]∧il ad H p (.bJ ns)∧∀ H',aq H H'→Q (.bl (zm one other ns)) H'
def i6 (ad:jw):Sp:=fun vs H Q _=>∃ (p:Addr) (ns:List Nd) (one other:Str),vs=[.ref p,.str one,.str other]∧il ad H p (.bJ ns)∧PyData.strOk other=true∧∀ H',aq H H'→Q (.bl (CT one other ns)) H'
def kl (ad:jw):Sp:=fun vs H Q _=>∃ (p:Addr) (ls:List (List V)) (w:Nat) (one other:Str),vs=[.ref p,.str one,.str other]∧TabObj ad H p ls w∧∀ H',aq H H'→Q (.bl (zo one other ls w)) H'
def jC (ad:jw):Sp:=fun vs H Q _=>∃ (p:Addr) (ls:List (List V)) (w:Nat) (one other:Str),vs=[.ref p,.str one,.str other]∧TabObj ad H p ls w∧∀ H',aq H H'→Q (.bl (ls.any (Aw one other))) H'
def pd (ad:jw):Sp:=fun vs H Q _=>∃ (p:Addr) (d:lB) (m:Str),vs=[.ref p,.str m]∧il ad H p d∧Q (.int (rM d m:Nat)) H
def xw (ad:jw):Sp:=fun vs H Q _=>∃ (p dx:Addr) (m:Str),vs=[.ref p,.str m]∧H p=some (.ins ad.Fn dx [])∧Q .cU (upd H p (.ins ad.Fn dx [("mark",.str m)]))
def vt (ad:jw):Sp:=fun vs H Q _=>∃ (p dx:Addr) (k:Int) (m:Str),vs=[.ref p,.int k,.str m]∧H p=some (.ins ad.rG dx [])∧Q .cU (upd H p (.ins ad.rG dx [("number",.int k),("mark",.str m)]))
def vv (ad:jw):Sp:=fun vs H Q _=>∃ (p dx:Addr) (w a b:Str),vs=[.ref p,.str a,.str b]∧H p=some (.ins (tZ ad w) dx [])∧Q .cU (upd H p (.ins (tZ ad w) dx [("one",.str a),("other",.str b)]))
def ua (K:PySem.W.Frag) (ad:jw):Sp:=fun vs H Q _=>∃ (p dx l:Addr) (b:Bool) (xs:List V),vs=[.ref p,.ref l]∧H p=some (.ins (EH ad b) dx [])∧bA K H l xs∧∀ t,H t=none→Q .cU (upd (upd H t (.tup xs)) p (.ins (EH ad b) dx [("parts",.ref t)]))
def xx (ad:jw):Sp:=fun vs H Q _=>∃ (p dx:Addr) (x:V),vs=[.ref p,x]∧H p=some (.ins ad.Not dx [])∧Q .cU (upd H p (.ins ad.Not dx [("part",x)]))
def ub:Sp:=fun vs H Q _=>∃ (c:Int) (m:Nat),vs=[.int c,.int m]∧m≤11∧∀ (zs:List Str) (l:Addr) H',zs.length=m→(∀ z∈zs,d6 z=true)→aq H H'→H' l=some (.lst (zs.map V.str))→Q (.ref l) H'
def vw (K:PySem.W.Frag):Sp:=fun vs H Q _=>∃ (a nl:Addr) (ns:List Int) (b m:Nat) (kd:Int) (zs:List Str),vs=[.ref a,.int b,.int kd,.int m,.ref nl]∧bA K H a (ns.map V.int)∧m≤12∧0≤kd∧kd<3∧H nl=some (.lst (zs.map V.str))∧1≤zs.length∧zs.length≤20∧(∀ z∈zs,d6 z=true)∧∀ l d H',aq H H'→oZ H' l d→eE d=kd→yG d→Q (.ref l) H'
def kn:Sp:=fun vs H Q _=>∃ (l:Addr) (ns:List Nd) (i:Nat),vs=[.ref l,.int i]∧oZ H l (.bJ ns)∧i<ns.length∧ns.length≤40∧Q (.int ((i+bH ns i+1:Nat):Int)) H
def vx:Sp:=fun vs H Q _=>∃ (c:Int) (nl:Addr) (zs:List Str),vs=[.int c,.ref nl]∧H nl=some (.lst (zs.map V.str))∧1≤zs.length∧zs.length≤20∧(∀ z∈zs,d6 z=true)∧∀ v tm H',aq H H'→gA H' v tm→ma tm→wB tm=0→Q v H'
def vy (K:PySem.W.Frag):Sp:=fun vs H Q _=>∃ (a nl:Addr) (ns:List Int) (b m:Nat) (zs:List Str),vs=[.ref a,.int b,.int m,.ref nl]∧bA K H a (ns.map V.int)∧1≤m∧m≤7∧H nl=some (.lst (zs.map V.str))∧1≤zs.length∧zs.length≤20∧(∀ z∈zs,d6 z=true)∧∀ v tm H',aq H H'→gA H' v tm→ma tm→wB tm<10→Q v H'
def pO (ad:jw) (n:Nat):Sp:=fun vs H Q _=>∃ (v:V) (tm:Tm),vs=[v]∧gA H v tm∧ma tm∧wB tm<n∧∀ u H',aq H H'→eB ad H' u tm→Q u H'
def Gb (d:lB) (m o:Str):Bool:=match d with
 | .row _=>false
 | .bJ ns=>zm m o ns
 | .table ls w=>zo m o ls w
def Lw (d:lB) (m o:Str):Bool:=match d with
 | .row xs=>Aw m o xs
 | .bJ ns=>CT m o ns
 | .table ls _=>ls.any (Aw m o)
theorem Be {m o:Str}:∀ {xs:List V},cW m o xs=true↔∃ e l,e<l∧l<xs.length∧kC m (xs.getD e .cU)=true∧kC o (xs.getD l .cU)=true
 | []=>by
  constructor
  ·intro h
   exact nomatch (show false=true from h)
  ·rintro⟨e,l,_,h,_⟩
   exact absurd h (Nat.not_lt_zero _)
 | x::xs=>by
  show ((kC m x&&xs.any (kC o))||cW m o xs)=true↔_
  rw[Bool.or_eq_true,Bool.and_eq_true,Be (xs:=xs),List.any_eq_true]
  constructor
  ·rintro (⟨h1,y,hy,h2⟩ | ⟨e,l,h1,h2,h3,h4⟩)
   ·obtain⟨i,hi,rfl⟩:=List.mem_iff_getElem.mp hy
    refine⟨0,i+1,by omega,by rw[List.length_cons];omega,h1,?_⟩
    rw[List.getD_eq_getElem?_getD,List.getElem?_cons_succ,List.getElem?_eq_getElem hi]
    exact h2
   ·exact⟨e+1,l+1,by omega,by rw[List.length_cons];omega,h3,h4⟩
  ·rintro⟨e,l,h1,h2,h3,h4⟩
   cases l with
   | zero=>omega
   | succ l =>
    rw[List.length_cons] at h2
    have XI:kC o (xs.getD l .cU)=true:=h4
    cases e with
    | zero =>
     refine .inl ⟨h3,xs.getD l .cU,?_,XI⟩
     rw[List.getD_eq_getElem?_getD,List.getElem?_eq_getElem (by omega:l<xs.length)]
     exact List.getElem_mem _
    | succ e=>exact .inr ⟨e,l,by omega,by omega,h3,XI⟩
theorem Gd {m:Str}{x:V} (h:markV x=true):kC m x=decide (Wy x=m):=by
 obtain⟨z,rfl⟩:=uM h
 exact vo m z
theorem tf {d:lB} (o:yG d):(bj d).all markV=true:=by
 cases d with
 | row xs=>exact o.1
 | bJ ns =>
  show (ns.map fun n=>V.str n.1).all markV=true
  rw[List.all_map,List.all_eq_true]
  intro n hn
  exact (nq o.1 n hn).1
 | table ls w=>exact y7 fun l hl=>(o.2.2 l hl).2
theorem getD_mem {α:Type}{xs:List α}{i:Nat}{a:α} (h:i<xs.length):xs.getD i a∈xs:=by
 rw[List.getD_eq_getElem?_getD,List.getElem?_eq_getElem h]
 exact List.getElem_mem h
theorem NY {ns:List Nd}{e l:Nat} (hl:l<ns.length):l≤e+bH ns e↔∀ j,e<j→j≤l→(ns.getD e ("",0)).2<(ns.getD j ("",0)).2:=by
 constructor
 ·intro h j h1 h2
  obtain⟨n,hn,hd⟩:=CS (ns:=ns) (k:=e) (j:=j-(e+1)) (by omega)
  rw[show e+1+(j-(e+1))=j by omega] at hn
  rw[List.getD_eq_getElem?_getD (i:=j),hn]
  exact hd
 ·intro h
  rcases Nat.lt_or_ge (e+bH ns e) l with qt | WA
  ·have hj:e+1+bH ns e<ns.length:=by omega
   have:=Bd (List.getElem?_eq_getElem hj)
   have h2:=h (e+1+bH ns e) (by omega) (by omega)
   rw[List.getD_eq_getElem?_getD (i:=e+1+bH ns e),List.getElem?_eq_getElem hj] at h2
   exact absurd h2 this
  ·exact WA
theorem Fp {ns:List Nd}{m:Str}{p:Int}:p∈idxs (kC m) 0 (ip ns)↔∃ n:Nat,p=(n:Int)∧n<ns.length∧(ns.getD n ("",0)).1=m:=by
 rw[Av]
 constructor
 ·rintro⟨n,x,h1,h2,h3⟩
  unfold ip at h2
  rw[List.getElem?_map] at h2
  obtain⟨nd,h4,rfl⟩:=Option.map_eq_some_iff.mp h2
  refine⟨n,by rw[h1,Nat.zero_add],(List.getElem?_eq_some_iff.mp h4).1,?_⟩
  rw[List.getD_eq_getElem?_getD,h4]
  rw[vo] at h3
  exact of_decide_eq_true h3
 ·rintro⟨n,h1,h2,h3⟩
  refine⟨n,.str ns[n].1,by rw[h1,Nat.zero_add],?_,?_⟩
  ·unfold ip
   rw[List.getElem?_map,List.getElem?_eq_getElem h2]
   rfl
  ·rw[vo]
   rw[List.getD_eq_getElem?_getD,List.getElem?_eq_getElem h2] at h3
   exact decide_eq_true h3
theorem Fq {ns:List Nd}{k:Nat}{q:Int}:q∈(sZ ns k).drop 1↔∃ i:Nat,1≤i∧i≤bH ns k∧q=((k+i:Nat):Int):=by
 rw[List.mem_iff_getElem?]
 unfold sZ
 constructor
 ·rintro⟨i,h⟩
  rw[List.getElem?_drop,List.getElem?_map] at h
  obtain⟨j,hj,rfl⟩:=Option.map_eq_some_iff.mp h
  obtain⟨h1,h2⟩:=List.getElem?_eq_some_iff.mp hj
  rw[List.length_range] at h1
  rw[List.getElem_range] at h2
  exact⟨j,by omega,by omega,by omega⟩
 ·rintro⟨i,h1,h2,rfl⟩
  refine⟨i-1,?_⟩
  rw[List.getElem?_drop,List.getElem?_map,show 1+(i-1)=i by omega,List.getElem?_range (by omega)]
  show some ((k:Int)+(i:Int))=_
  rw[show (k:Int)+(i:Int)=((k+i:Nat):Int) by omega]
theorem Dy {ns:List Nd}{m o:Str}:zm m o ns=true↔∃ e l,e<l∧l<ns.length∧(ns.getD e ("",0)).1=m∧(ns.getD l ("",0)).1=o∧l≤e+bH ns e:=by
 unfold zm
 rw[List.any_eq_true]
 constructor
 ·rintro⟨p,hp,hi⟩
  obtain⟨e,rfl,he,hm⟩:=Fp.mp hp
  rw[Int.toNat_natCast] at hi
  obtain⟨x,hx,UL⟩:=List.any_eq_true.mp (show (((sZ ns e).drop 1).map fun q=>(ip ns).getD q.toNat .cU).any (kC o)=true from hi)
  obtain⟨q,hq,rfl⟩:=List.mem_map.mp hx
  obtain⟨i,hi1,VY,rfl⟩:=Fq.mp hq
  have:=yA ns e
  rw[Int.toNat_natCast,zk (by omega),vo] at UL
  exact⟨e,e+i,by omega,by omega,hm,of_decide_eq_true UL,by omega⟩
 ·rintro⟨e,l,h1,h2,h3,h4,h5⟩
  refine⟨(e:Int),Fp.mpr ⟨e,rfl,by omega,h3⟩,?_⟩
  rw[Int.toNat_natCast]
  refine (show (((sZ ns e).drop 1).map fun q=>(ip ns).getD q.toNat .cU).any (kC o)=true from List.any_eq_true.mpr ⟨_,List.mem_map.mpr ⟨((e+(l-e):Nat):Int),Fq.mpr ⟨l-e,by omega,by omega,rfl⟩,rfl⟩,?_⟩)
  rw[Int.toNat_natCast,show e+(l-e)=l by omega,zk h2,vo]
  exact decide_eq_true h4
theorem Ay {ls:List (List V)}{w j c:Nat} (hl:∀ l∈ls,qw w l) (hj:j<ls.length) (hc:c<w):markV ((ls.getD j []).getD c .cU)=true:=by
 have h:=hl _ (getD_mem (a:=[]) hj)
 exact List.all_eq_true.mp h.2 _ (getD_mem (by rw[h.1];exact hc))
theorem Dz {ls:List (List V)}{w:Nat}{m o:Str} (hl:∀ l∈ls,qw w l):zo m o ls w=true↔∃ c j1 j2,c<w∧j1<j2∧j2<ls.length∧Wy ((ls.getD j1 []).getD c .cU)=m∧Wy ((ls.getD j2 []).getD c .cU)=o:=by
 have gm:∀ {c j:Nat},j<ls.length→(ls.map fun l=>l.getD c .cU).getD j .cU=(ls.getD j []).getD c .cU:=fun {c j} hj=>by
  rw[List.getD_eq_getElem?_getD,List.getElem?_map,List.getD_eq_getElem?_getD (l:=ls),List.getElem?_eq_getElem hj]
  rfl
 unfold zo
 rw[List.any_eq_true]
 constructor
 ·rintro⟨c,hc,h⟩
  have LJ:=List.mem_range.mp hc
  obtain⟨e,l,h1,h2,h3,h4⟩:=Be.mp h
  rw[List.length_map] at h2
  rw[gm (by omega),Gd (Ay hl (by omega) LJ)] at h3
  rw[gm h2,Gd (Ay hl h2 LJ)] at h4
  exact⟨c,e,l,LJ,h1,h2,of_decide_eq_true h3,of_decide_eq_true h4⟩
 ·rintro⟨c,e,l,hc,h1,h2,h3,h4⟩
  refine⟨c,List.mem_range.mpr hc,Be.mpr ⟨e,l,h1,by rw[List.length_map];exact h2,?_,?_⟩⟩
  ·rw[gm (by omega),Gd (Ay hl (by omega) hc)]
   exact decide_eq_true h3
  ·rw[gm h2,Gd (Ay hl h2 hc)]
   exact decide_eq_true h4
def EI (d:lB) (w a b:Str):Bool:=if w = "before" then cW a b (bj d) else if w = "under" then Gb d a b else Lw d a b
mutual
def cg (d:lB):Tm→Bool
 | .has m=>decide (0<rM d m)
 | .many k m=>decide (k≤(rM d m:Int))
 | .pair w a b=>EI d w a b
 | .gq true ps=>xy d ps
 | .gq false ps=>xA d ps
 | .not p => !cg d p
def xy (d:lB):List Tm→Bool
 | []=>true
 | p::ps=>cg d p&&xy d ps
def xA (d:lB):List Tm→Bool
 | []=>false
 | p::ps=>cg d p||xA d ps
end
theorem DA (d:lB):∀ ps,xy d ps=ps.all (cg d)
 | []=>rfl
 | p::ps=>by unfold xy;rw[List.all_cons,DA d ps]
theorem DB (d:lB):∀ ps,xA d ps=ps.any (cg d)
 | []=>rfl
 | p::ps=>by unfold xA;rw[List.any_cons,DB d ps]
def iE (ad:jw):Sp:=fun vs H Q _=>∃ (p q:Addr) (d:lB) (m:Str),vs=[.ref p,.ref q]∧eB ad H (.ref p) (.has m)∧ma (.has m)∧il ad H q d∧∀ H',aq H H'→Q (.bl (cg d (.has m))) H'
def gS (ad:jw):Sp:=fun vs H Q _=>∃ (p q:Addr) (d:lB) (k:Int) (m:Str),vs=[.ref p,.ref q]∧eB ad H (.ref p) (.many k m)∧ma (.many k m)∧il ad H q d∧∀ H',aq H H'→Q (.bl (cg d (.many k m))) H'
def fB (ad:jw):Sp:=fun vs H Q _=>∃ (p q:Addr) (d:lB) (a b:Str),vs=[.ref p,.ref q]∧eB ad H (.ref p) (.pair "before" a b)∧ma (.pair "before" a b)∧il ad H q d∧∀ H',aq H H'→Q (.bl (cg d (.pair "before" a b))) H'
def gg (ad:jw):Sp:=fun vs H Q _=>∃ (p q:Addr) (d:lB) (a b:Str),vs=[.ref p,.ref q]∧eB ad H (.ref p) (.pair "under" a b)∧ma (.pair "under" a b)∧il ad H q d∧∀ H',aq H H'→Q (.bl (cg d (.pair "under" a b))) H'
def fE (ad:jw):Sp:=fun vs H Q _=>∃ (p q:Addr) (d:lB) (a b:Str),vs=[.ref p,.ref q]∧eB ad H (.ref p) (.pair "beside" a b)∧ma (.pair "beside" a b)∧il ad H q d∧∀ H',aq H H'→Q (.bl (cg d (.pair "beside" a b))) H'
def iF (ad:jw) (n:Nat):Sp:=fun vs H Q _=>∃ (p q:Addr) (d:lB) (ps:List Tm),vs=[.ref p,.ref q]∧eB ad H (.ref p) (.gq true ps)∧ma (.gq true ps)∧il ad H q d∧yB ps+1<n∧∀ H',aq H H'→Q (.bl (cg d (.gq true ps))) H'
def iG (ad:jw) (n:Nat):Sp:=fun vs H Q _=>∃ (p q:Addr) (d:lB) (ps:List Tm),vs=[.ref p,.ref q]∧eB ad H (.ref p) (.gq false ps)∧ma (.gq false ps)∧il ad H q d∧yB ps+1<n∧∀ H',aq H H'→Q (.bl (cg d (.gq false ps))) H'
def iH (ad:jw) (n:Nat):Sp:=fun vs H Q _=>∃ (p q:Addr) (d:lB) (t:Tm),vs=[.ref p,.ref q]∧eB ad H (.ref p) (.not t)∧ma (.not t)∧il ad H q d∧wB t+1<n∧∀ H',aq H H'→Q (.bl (cg d (.not t))) H'
theorem Az {ad:jw}{H:Hp}{q:Addr}{d:lB} (ht:il ad H q d) {nm:Str} (e1:(nm==Str.ofString "spot_marks")=false) (e2:(nm==Str.ofString "nodes")=false) (e3:(nm==Str.ofString "lines")=false) (e4:(nm==Str.ofString "columns")=false) {R1 R2 R3:Prop}
  (f1:∀ xs,d=.row xs→∀ dx fs,H q=some (.ins ad.Row dx fs)→List.lookup nm fs=none→R1) (f2:∀ ns,d=.bJ ns→∀ dx fs,H q=some (.ins ad.cF dx fs)→List.lookup nm fs=none→R2)
  (f3:∀ ls w,d=.table ls w→∀ dx fs,H q=some (.ins ad.Table dx fs)→List.lookup nm fs=none→R3):(R1∨R2)∨R3:=by
 cases d with
 | row xs=>obtain⟨dx,t,h1,_⟩:=id ht;exact .inl (.inl (f1 xs rfl dx _ h1 (by rw[List.lookup_cons,e1];rfl)))
 | bJ ns=>obtain⟨⟨dx,t1,t2,xs,h1,_⟩,_⟩:=id ht;exact .inl (.inr (f2 ns rfl dx _ h1 (cX e1 e2)))
 | table ls w=>obtain⟨dx,t1,t2,ts,h1,_⟩:=id ht;exact .inr (f3 ls w rfl dx _ h1 (y8 e1 e3 e4))
theorem UW {α:Type}{a b:Str}{x y:α} (h:(b==a)=false):List.lookup b [(a,x),(b,y)]=some y:=by
 rw[List.lookup_cons,h,List.lookup_cons,beq_self_eq_true]
def PU (ad:jw) (C:Addr) (sp:Sp) (H:Hp) (v:V) (q:Addr) (Q:VK) (E:XK):Prop:=∃ a dx fs,v=.ref a∧H a=some (.ins C dx fs)∧List.lookup (Str.ofString "holds") fs=none∧sp [v,.ref q] H Q E
theorem Ge {ad:jw}{H:Hp}{v:V}{q:Addr}{d:lB}{tm:Tm}{n:Nat}{Q:VK}{E:XK} (h:eB ad H v tm) (ok:ma tm) (ht:il ad H q d) (hd:wB tm<n) (k:∀ H',aq H H'→Q (.bl (cg d tm)) H') {R1 R2 R3 R4 R5 R6 R7 R8:Prop}
  (f1:PU ad ad.Fn (iE ad) H v q Q E→R1) (f2:PU ad ad.rG (gS ad) H v q Q E→R2) (f3:PU ad ad.iP (fB ad) H v q Q E→R3) (f4:PU ad ad.Under (gg ad) H v q Q E→R4)
  (f5:PU ad ad.iQ (fE ad) H v q Q E→R5) (f6:PU ad ad.All (iF ad n) H v q Q E→R6) (f7:PU ad ad.Any (iG ad n) H v q Q E→R7) (f8:PU ad ad.Not (iH ad n) H v q Q E→R8) :
  ((((((R1∨R2)∨R3)∨R4)∨R5)∨R6)∨R7)∨R8:=by
 cases tm with
 | has m =>
  have h0:=h
  unfold eB at h;obtain⟨a,dx,rfl,h⟩:=h
  exact .inl (.inl (.inl (.inl (.inl (.inl (.inl (f1 ⟨a,dx,_,rfl,h,rfl,a,q,d,m,rfl,h0,ok,ht,k⟩)))))))
 | many i m =>
  have h0:=h
  unfold eB at h;obtain⟨a,dx,rfl,h⟩:=h
  exact .inl (.inl (.inl (.inl (.inl (.inl (.inr (f2 ⟨a,dx,_,rfl,h,cX (by decide +kernel) (by decide +kernel),a,q,d,i,m,rfl,h0,ok,ht,k⟩)))))))
 | pair w x y =>
  have h0:=h
  unfold eB at h;obtain⟨a,dx,rfl,h⟩:=h
  have NZ:=ok
  unfold ma at ok
  rcases ok.1 with rfl | rfl | rfl
  ·exact .inl (.inl (.inl (.inl (.inl (.inr (f3 ⟨a,dx,_,rfl,h,cX (by decide +kernel) (by decide +kernel),a,q,d,x,y,rfl,h0,NZ,ht,k⟩))))))
  ·exact .inl (.inl (.inl (.inl (.inr (f4 ⟨a,dx,_,rfl,h,cX (by decide +kernel) (by decide +kernel),a,q,d,x,y,rfl,h0,NZ,ht,k⟩)))))
  ·exact .inl (.inl (.inl (.inr (f5 ⟨a,dx,_,rfl,h,cX (by decide +kernel) (by decide +kernel),a,q,d,x,y,rfl,h0,NZ,ht,k⟩))))
 | gq b ps =>
  have h0:=h
  unfold eB at h;obtain⟨a,dx,t,xs,rfl,h,_⟩:=h
  unfold wB at hd
  cases b with
  | true=>exact .inl (.inl (.inr (f6 ⟨a,dx,_,rfl,h,rfl,a,q,d,ps,rfl,h0,ok,ht,hd,k⟩)))
  | false=>exact .inl (.inr (f7 ⟨a,dx,_,rfl,h,rfl,a,q,d,ps,rfl,h0,ok,ht,hd,k⟩))
 | not p =>
  have h0:=h
  unfold eB at h;obtain⟨a,dx,x,rfl,h,_⟩:=h
  unfold wB at hd
  exact .inr (f8 ⟨a,dx,_,rfl,h,rfl,a,q,d,p,rfl,h0,ok,ht,hd,k⟩)
def mB:Sp:=fun vs H Q _=>∃ (l:Addr) (d:lB),vs=[.int (eE d),.ref l]∧oZ H l d∧yG d∧∀ p H',aq H H'→H' p=some (.lst (bj d))→Q (.ref p) H'
def uc:Sp:=fun vs H Q _=>∃ (l:Addr) (d:lB) (w:Str),vs=[.int (eE d),.ref l,.str w]∧oZ H l d∧yG d∧Lu w∧∀ p ys H',aq H H'→H' p=some (.lst ys)→aN .tup H' ys (Dw d w)→Q (.ref p) H'
def Gf (K:PySem.W.Frag):Sp:=fun vs H Q _=>∃ (a:Addr) (ns:List Int),vs=[.ref a]∧bA K H a (ns.map V.int)∧ns.length≤63∧∀ H',Q (.bl true) H'
def ud (ad:jw):Sp:=fun vs H Q _=>∃ (l:Addr) (d:lB),vs=[.int (eE d),.ref l]∧oZ H l d∧yG d∧∀ p H',aq H H'→il ad H' p d→Q (.ref p) H'
theorem Mw {n:Nat}{p:Nat×Nat} (h:p∈JE n):p.1<p.2∧p.2<n:=by
 obtain⟨q,hq,Ze⟩:=List.mem_flatten.mp h
 obtain⟨e,he,rfl⟩:=List.mem_map.mp hq
 obtain⟨j,hj,rfl⟩:=List.mem_map.mp Ze
 have:=List.mem_range.mp he
 have:=List.mem_range.mp hj
 dsimp only
 omega
theorem DC {d:lB} (o:yG d) (w:Str):∀ r∈Dw d w,r.all markV=true:=fun r hr=>by
 have mk:=List.all_eq_true.mp (tf o)
 obtain⟨p,hp,rfl⟩:=List.mem_map.mp hr
 have yK:=(List.mem_filter.mp hp).1
 obtain⟨h1,h2⟩:=Mw yK
 rw[List.all_cons,List.all_cons,List.all_nil,mk _ (getD_mem (show p.1<(bj d).length by omega)),mk _ (getD_mem h2)]
 rfl
theorem Lx {ns:List Nd} (hd:dG 0 ns):∀ i,i≤ns.length→(∀ t j:Nat,(way (ns.take i))[t]? = some (j:Int)→(ns.getD j ("",0)).2=(t:Int))∧∀ j:Nat,(j:Int)∈way (ns.take i)↔j<i∧∀ x,j<x→x<i→(ns.getD j ("",0)).2<(ns.getD x ("",0)).2:=by
 intro i
 induction i with
 | zero =>
  intro _
  rw[List.take_zero]
  exact⟨fun t j h=>(nomatch h),fun j=>⟨fun h=>(nomatch h),fun h=>absurd h.1 (Nat.not_lt_zero _)⟩⟩
 | succ i ih =>
  intro hi
  obtain⟨S5,UH⟩:=ih (by omega)
  have hn:ns[i]? = some ns[i]:=List.getElem?_eq_getElem (by omega)
  have hf:=NI hd hn
  have ge:ns.getD i ("",0)=ns[i]:=by rw[List.getD_eq_getElem?_getD,hn];rfl
  rw[za hn] at hf
  rw[p3 hn]
  refine⟨fun t j h=>?_,fun j=>?_⟩
  ·rw[List.getElem?_append] at h
   by_cases ht:t<((way (ns.take i)).take ns[i].2.toNat).length
   ·rw[if_pos ht,List.getElem?_take] at h
    split at h
    ·exact S5 t j h
    ·exact nomatch h
   ·rw[if_neg ht] at h
    have h0:t-((way (ns.take i)).take ns[i].2.toNat).length=0:=by
     rcases Nat.eq_zero_or_pos (t-((way (ns.take i)).take ns[i].2.toNat).length) with h1 | h1
     ·exact h1
     ·rw[List.getElem?_eq_none (by rw[List.length_singleton];omega)] at h
      exact nomatch h
    rw[h0] at h
    have ej:(i:Int)=(j:Int):=by simpa using h
    have:j=i:=by omega
    subst this
    rw[ge]
    omega
  ·rw[List.mem_append,List.mem_singleton]
   constructor
   ·rintro (h | h)
    ·obtain⟨t,ht,e⟩:=List.mem_iff_getElem.mp h
     have e1:(way (ns.take i))[t]? = some (j:Int):=by
      rw[List.getElem_take] at e
      rw[List.length_take] at ht
      rw[List.getElem?_eq_getElem (by omega),e]
     have d1:=S5 t j e1
     obtain⟨h1,h2⟩:=(UH j).mp (List.mem_of_mem_take h)
     refine⟨by omega,fun x hx hxi=>?_⟩
     rcases Nat.lt_or_ge x i with PV | PV
     ·exact h2 x hx PV
     ·have:x=i:=by omega
      subst this
      rw[ge,d1]
      rw[List.length_take] at ht
      omega
    ·have:j=i:=by omega
     subst this
     exact⟨by omega,fun x h1 h2=>by omega⟩
   ·rintro⟨h1,h2⟩
    rcases Nat.lt_or_ge j i with hj | hj
    ·left
     have hm:=(UH j).mpr ⟨hj,fun x a b=>h2 x a (by omega)⟩
     obtain⟨t,ht,e⟩:=List.mem_iff_getElem.mp hm
     have e1:(way (ns.take i))[t]? = some (j:Int):=by rw[List.getElem?_eq_getElem ht,e]
     have d1:=S5 t j e1
     have d2:=h2 i hj (by omega)
     rw[ge,d1] at d2
     refine List.mem_iff_getElem.mpr ⟨t,by rw[List.length_take];omega,?_⟩
     rw[List.getElem_take]
     exact e
    ·right
     have:j=i:=by omega
     rw[this]
theorem Pb {ns:List Nd} (hd:dG 0 ns) {k:Nat} (hk:k<ns.length) (j:Nat):(j:Int)∈Es ns k↔j<k∧∀ x,j<x→x≤k→(ns.getD j ("",0)).2<(ns.getD x ("",0)).2:=by
 have hn:ns[k]? = some ns[k]:=List.getElem?_eq_getElem hk
 have h1:=(Lx hd (k+1) (by omega)).2 j
 rw[p3 hn,List.mem_append,List.mem_singleton,←za hn] at h1
 constructor
 ·intro h
  have hj:=(((Lx hd k (Nat.le_of_lt hk)).2 j).mp (List.mem_of_mem_take (by rw[za hn] at h;exact h))).1
  exact⟨hj,fun x a b=>(h1.mp (.inl h)).2 x a (by omega)⟩
 ·rintro⟨a,b⟩
  rcases h1.mpr ⟨by omega,fun x c d=>b x c (by omega)⟩ with h | h
  ·exact h
  ·omega
theorem AA {ns:List Nd} (hd:dG 0 ns) {e l:Nat} (h:e<l) (hl:l<ns.length):(e:Int)∈Es ns l↔l≤e+bH ns e:=by
 rw[Pb hd hl,NY hl]
 exact⟨fun h=>h.2,fun h'=>⟨h,h'⟩⟩
theorem len_sub:∀ {a b:List Int},a.Nodup→(∀ x∈a,x∈b)→a.length≤b.length
 | [],_,_,_=>Nat.zero_le _
 | x::a,b,ha,hs=>by
  have hx:=hs x List.mem_cons_self
  have XJ:=List.nodup_cons.mp ha
  have h1:a.length≤(b.erase x).length:=len_sub XJ.2 fun y hy=>by
   have L1:=hs y (List.mem_cons_of_mem _ hy)
   have ne:y≠x:=fun e=>XJ.1 (e▸hy)
   exact (List.mem_erase_of_ne ne).mpr L1
  have h2:=List.length_erase_of_mem hx
  have h3:=List.length_pos_of_mem hx
  rw[List.length_cons]
  omega
theorem JG {a b:List Int} (ha:a.Nodup) (hb:b.Nodup):(a.filter fun x=>decide (x∈b)).length=(b.filter fun x=>decide (x∈a)).length:=by
 apply Nat.le_antisymm
 ·refine len_sub (ha.filter _) fun x hx=>?_
  have h:=List.mem_filter.mp hx
  exact List.mem_filter.mpr ⟨of_decide_eq_true h.2,decide_eq_true h.1⟩
 ·refine len_sub (hb.filter _) fun x hx=>?_
  have h:=List.mem_filter.mp hx
  exact List.mem_filter.mpr ⟨of_decide_eq_true h.2,decide_eq_true h.1⟩
theorem JH {ns:List Nd}:∀ i,i≤ns.length→(way (ns.take i)).Pairwise (·<·):=by
 intro i
 induction i with
 | zero=>intro _;rw[List.take_zero];exact List.Pairwise.nil
 | succ i ih =>
  intro hi
  rw[p3 (List.getElem?_eq_getElem (by omega:i<ns.length)),List.pairwise_append]
  refine⟨(ih (by omega)).sublist (List.take_sublist _ _),List.pairwise_singleton _ _,fun x hx y hy=>?_⟩
  rw[List.mem_singleton.mp hy]
  exact (FV i (by omega) x (List.mem_of_mem_take hx)).2
theorem AB {a:List Int} (h:a.Pairwise (·<·)):a.Nodup:=h.imp fun h e=>by rw[e] at h;exact absurd h (Int.lt_irrefl _)
theorem Mx {ns:List Nd}{ps:List Int} (hd:dG 0 ns) (hp:placesOk 0 ns.length ps) {p:Int} (h0:0≤p) (h1:p<ns.length) :
  (ps.filter fun q=>decide (q<p)&&decide (p<q+(bH ns q.toNat:Int)+1)).length=(kept ps (Es ns p.toNat)).length:=by
 obtain⟨pb,pw⟩:=aR.mp hp
 have an:(Es ns p.toNat).Nodup:=(AB (JH p.toNat (by omega))).sublist (List.take_sublist _ _)
 unfold kept
 rw[JG an (AB pw)]
 congr 1
 refine List.filter_congr fun q hq=>?_
 have b:=pb q hq
 rw[Bool.eq_iff_iff,Bool.and_eq_true,decide_eq_true_iff,decide_eq_true_iff,decide_eq_true_iff]
 have e:q=((q.toNat:Nat):Int):=by omega
 constructor
 ·rintro⟨h2,h3⟩
  rw[e]
  exact (AA hd (by omega) (by omega)).mpr (by omega)
 ·intro h2
  have h3:=(FV p.toNat (by omega) q (List.mem_of_mem_take h2)).2
  refine⟨by omega,?_⟩
  rw[e] at h2
  have:=(AA hd (by omega) (by omega)).mp h2
  omega
theorem My {ns:List Nd}{ps:List Int} (hd:dG 0 ns) (hp:placesOk 0 ns.length ps) {e l:Nat} (h:e<l) (hl:l<ps.length) (hu:l≤e+bH (eU ns ps) e) :
  (ps.getD l 0).toNat≤(ps.getD e 0).toNat+bH ns (ps.getD e 0).toNat:=by
 have ll:(eU ns ps).length=ps.length:=List.length_map _
 have hm:=(AA (CQ hd hp) h (by omega)).mpr hu
 have XM:ps[l]? = some ps[l]:=List.getElem?_eq_getElem hl
 have Zf:ps[e]? = some (ps[e]'(by omega)):=List.getElem?_eq_getElem (by omega)
 have gl:ps.getD l 0=ps[l]:=by rw[List.getD_eq_getElem?_getD,XM];rfl
 have ge:ps.getD e 0=ps[e]'(by omega):=by rw[List.getD_eq_getElem?_getD,Zf];rfl
 have hw:=HK hd hp XM
 have h2:ps.getD e 0∈kept ps (Es ns (ps[l]).toNat):=by
  rw[←hw]
  exact List.mem_map.mpr ⟨(e:Int),hm,by rw[Int.toNat_natCast]⟩
 have h3:=(List.mem_filter.mp h2).1
 obtain⟨pb,pw⟩:=aR.mp hp
 have be:=pb (ps[e]'(by omega)) (List.getElem_mem _)
 have bl:=pb ps[l] (List.getElem_mem _)
 have lt:=List.pairwise_iff_getElem.mp pw e l (by omega) hl h
 rw[gl,ge] at *
 refine (AA hd (by omega) (by omega)).mp ?_
 rw[Int.toNat_of_nonneg be.1]
 exact h3
mutual
def fG:Tm→Bool
 | .has _=>true
 | .many _ _=>true
 | .pair w _ _=>decide (¬ w = "beside")
 | .gq _ ps=>vz ps
 | .not _=>false
def vz:List Tm→Bool
 | []=>true
 | p::ps=>fG p&&vz ps
end
theorem zq {α:Type} (d:α):∀ (xs:List α) (lo:Int) (ps:List Int),placesOk lo (lo+(xs.length:Int)) ps→(ps.map fun p=>xs.getD (p-lo).toNat d).Sublist xs
 | [],lo,[],_=>.slnil
 | [],lo,p::ps,h=>by
  have h1:=h.1
  have h2:p<lo+((0:Nat):Int):=h.2.1
  omega
 | x::xs,lo,[],_=>List.nil_sublist _
 | x::xs,lo,p::ps,h=>by
  have h1:=h.1
  have h2:p<lo+((xs.length+1:Nat):Int):=h.2.1
  have h3:placesOk (p+1) (lo+((xs.length+1:Nat):Int)) ps:=h.2.2
  obtain⟨b3,w3⟩:=aR.mp h3
  have shift:∀ qs:List Int,(∀ q∈qs,lo+1≤q)→(qs.map fun q=>(x::xs).getD (q-lo).toNat d)=qs.map fun q=>xs.getD (q-(lo+1)).toNat d:=fun qs hq=>by
   refine List.map_congr_left fun q hm=>?_
   have:=hq q hm
   rw[show (q-lo).toNat=(q-(lo+1)).toNat+1 by omega]
   rfl
  rcases (show p=lo∨lo+1≤p by omega) with e | e
  ·subst e
   have ih:=zq d xs (p+1) ps (aR.mpr ⟨fun q hq=>⟨(b3 q hq).1,by have:=(b3 q hq).2;omega⟩,w3⟩)
   rw[←shift ps fun q hq=>(b3 q hq).1] at ih
   rw[List.map_cons,show (p-p).toNat=0 by omega]
   exact .cons_cons x ih
  ·have ih:=zq d xs (lo+1) (p::ps) (aR.mpr ⟨fun q hq=>by
    rcases List.mem_cons.mp hq with rfl | hq
    ·omega
    ·have:=b3 q hq
     omega,(aR.mp h).2⟩)
   rw[←shift (p::ps) fun q hq=>by
    rcases List.mem_cons.mp hq with rfl | hq
    ·exact e
    ·have:=(b3 q hq).1
     omega] at ih
   exact .cons x ih
theorem AE {α:Type}{d:α}{xs:List α}{ps:List Int} (h:placesOk 0 xs.length ps):(ps.map fun p=>xs.getD p.toNat d).Sublist xs:=by
 have:=zq d xs 0 ps (by rw[Int.zero_add];exact h)
 simpa only[Int.sub_zero] using this
theorem Fs {α:Type}{f:List α→List α}:∀ {L:List (List α)},(∀ r∈L,(f r).Sublist r)→(L.map f).flatten.Sublist L.flatten
 | [],_=>.slnil
 | r::L,h=>by
  rw[List.map_cons,List.flatten_cons,List.flatten_cons]
  exact (h r List.mem_cons_self).append (Fs fun r hr=>h r (List.mem_cons_of_mem _ hr))
theorem Mz {α:Type}{L M:List (List α)} (h:L.Sublist M):L.flatten.Sublist M.flatten:=by
 induction h with
 | slnil=>exact .slnil
 | cons a _ ih=>rw[List.flatten_cons];exact ih.trans (List.sublist_append_right _ _)
 | cons_cons a _ ih=>rw[List.flatten_cons,List.flatten_cons];exact (List.Sublist.refl _).append ih
theorem AF {n:Nat}{m:Int}{ps:List Int} (h:placesOk 0 m ps):placesOk 0 n (linesOf n ps):=aR.mpr ⟨nv h,(aR.mp h).2.filter _⟩
theorem Cd {n w:Nat}{ps:List Int} (h:placesOk 0 ((n:Int)+(w:Int)) ps):placesOk 0 w (bB n ps):=aR.mpr ⟨rp h,by
 unfold bB
 rw[List.pairwise_map]
 exact ((aR.mp h).2.filter _).imp fun h=>by omega⟩
theorem Io {d:lB}{ps:List Int} (o:yG d) (hp:placesOk 0 (kM d:Nat) ps):(bj (kN d ps)).Sublist (bj d):=by
 cases d with
 | row xs=>exact AE (d:=V.cU) hp
 | bJ ns =>
  have h:=(AE (d:=(("",0):Nd)) (show placesOk 0 ns.length ps from hp)).map fun n:Nd=>V.str n.1
  rw[List.map_map] at h
  show ((eU ns ps).map fun n=>V.str n.1).Sublist _
  unfold eU
  rw[List.map_map]
  exact h
 | table ls w =>
  have yK:placesOk 0 ((ls.length:Int)+(w:Int)) ps:=by
   have:((kM (.table ls w):Nat):Int)=(ls.length:Int)+(w:Int):=by show ((ls.length+w:Nat):Int)=_;omega
   rw[←this]
   exact hp
  have h1:=Mz (AE (d:=([]:List V)) (AF (n:=ls.length) yK))
  have hc:=Cd yK
  refine List.Sublist.trans ?_ h1
  have e:iZ ls ps=((linesOf ls.length ps).map fun p=>ls.getD p.toNat []).map fun r=>(bB ls.length ps).map fun j=>r.getD j.toNat .cU:=by
   unfold iZ
   rw[List.map_map]
   rfl
  show (iZ ls ps).flatten.Sublist _
  rw[e]
  refine Fs fun r hr=>?_
  obtain⟨i,hi,rfl⟩:=List.mem_map.mp hr
  have bi:=nv yK i hi
  have hl:=o.2.2 (ls.getD i.toNat []) (by rw[List.getD_eq_getElem?_getD,List.getElem?_eq_getElem (by omega)];exact List.getElem_mem _)
  exact AE (d:=V.cU) (by rw[hl.1];exact hc)
theorem MA {m o:Str}{xs ys:List V} (h:xs.Sublist ys):cW m o xs=true→cW m o ys=true:=by
 induction h with
 | slnil=>exact id
 | cons a _ ih =>
  intro h
  unfold cW
  rw[ih h,Bool.or_true]
 | @cons_cons l1 l2 a hs ih =>
  intro h
  unfold cW at h ⊢
  rw[Bool.or_eq_true,Bool.and_eq_true] at h ⊢
  rcases h with ⟨h1,h2⟩ | h
  ·obtain⟨x,hx,hm⟩:=List.any_eq_true.mp h2
   exact .inl ⟨h1,List.any_eq_true.mpr ⟨x,hs.subset hx,hm⟩⟩
  ·exact .inr (ih h)
theorem rN {m:Int}{ps:List Int} (hp:placesOk 0 m ps) {i:Nat} (h:i<ps.length):0≤ps.getD i 0∧ps.getD i 0<m∧ps.getD i 0∈ps:=by
 have e:ps.getD i 0=ps[i]:=by rw[List.getD_eq_getElem?_getD,List.getElem?_eq_getElem h];rfl
 rw[e]
 have:=(aR.mp hp).1 _ (List.getElem_mem h)
 exact⟨this.1,this.2,List.getElem_mem h⟩
theorem Ft {m:Int}{ps:List Int} (hp:placesOk 0 m ps) {e l:Nat} (h:e<l) (hl:l<ps.length):ps.getD e 0<ps.getD l 0:=by
 have:=List.pairwise_iff_getElem.mp (aR.mp hp).2 e l (by omega) hl h
 rw[List.getD_eq_getElem?_getD,List.getD_eq_getElem?_getD,List.getElem?_eq_getElem hl,List.getElem?_eq_getElem (by omega:e<ps.length)]
 exact this
theorem map_getD {α β:Type}{f:α→β}{xs:List α}{i:Nat}{a:α}{b:β} (h:i<xs.length):(xs.map f).getD i b=f (xs.getD i a):=by
 rw[List.getD_eq_getElem?_getD,List.getElem?_map,List.getD_eq_getElem?_getD,List.getElem?_eq_getElem h]
 rfl
theorem JI {d:lB}{ps:List Int}{m n:Str} (o:yG d) (o':yG (kN d ps)) (hp:placesOk 0 (kM d:Nat) ps) (h:Gb (kN d ps) m n=true):Gb d m n=true:=by
 cases d with
 | row xs=>exact nomatch (show false=true from h)
 | bJ ns =>
  have yK:placesOk 0 ns.length ps:=hp
  obtain⟨e,l,h1,h2,h3,h4,h5⟩:=Dy.mp (show zm m n (eU ns ps)=true from h)
  have ll:(eU ns ps).length=ps.length:=List.length_map _
  rw[ll] at h2
  have g:∀ {i:Nat},i<ps.length→((eU ns ps).getD i ("",0)).1=(ns.getD (ps.getD i 0).toNat ("",0)).1:=fun {i} hi=>by
   unfold eU
   rw[map_getD (a:=0) hi]
   rfl
  rw[g (by omega)] at h3
  rw[g h2] at h4
  have b1:=rN yK (show e<ps.length by omega)
  have b2:=rN yK h2
  have lt:=Ft yK h1 h2
  exact Dy.mpr ⟨(ps.getD e 0).toNat,(ps.getD l 0).toNat,by omega,by omega,h3,h4,My o.1 yK h1 h2 h5⟩
 | table ls w =>
  have yK:placesOk 0 ((ls.length:Int)+(w:Int)) ps:=by
   have:((kM (.table ls w):Nat):Int)=(ls.length:Int)+(w:Int):=by show ((ls.length+w:Nat):Int)=_;omega
   rw[←this]
   exact hp
  obtain⟨c,j1,j2,hc,h1,h2,h3,h4⟩:=(Dz o'.2.2).mp (show zo m n (iZ ls ps) (bB ls.length ps).length=true from h)
  have ll:(iZ ls ps).length=(linesOf ls.length ps).length:=List.length_map _
  rw[ll] at h2
  have g:∀ {j:Nat},j<(linesOf ls.length ps).length→((iZ ls ps).getD j []).getD c .cU=(ls.getD ((linesOf ls.length ps).getD j 0).toNat []).getD ((bB ls.length ps).getD c 0).toNat .cU:=fun {j} hj=>by
   unfold iZ
   rw[map_getD (a:=0) hj,map_getD (a:=0) hc]
  rw[g (by omega)] at h3
  rw[g h2] at h4
  have lp:=AF (n:=ls.length) yK
  have b1:=rN lp (show j1<_ by omega)
  have b2:=rN lp h2
  have b3:=rN (Cd yK) hc
  have lt:=Ft lp h1 h2
  exact (Dz o.2.2).mpr ⟨_,_,_,by omega,(by omega:((linesOf ls.length ps).getD j1 0).toNat<((linesOf ls.length ps).getD j2 0).toNat),by omega,h3,h4⟩
theorem DD {d:lB}{ps:List Int} (o:yG d) (hp:placesOk 0 (kM d:Nat) ps) (m:Str):rM (kN d ps) m≤rM d m:=(Io o hp).countP_le
mutual
theorem vA {d:lB}{ps:List Int} (o:yG d) (o':yG (kN d ps)) (hp:placesOk 0 (kM d:Nat) ps):∀ tm:Tm,ma tm→fG tm=true→cg (kN d ps) tm=true→cg d tm=true
 | .has m,_,_,h=>by
  unfold cg at h ⊢
  have:=of_decide_eq_true h
  have:=DD o hp m
  exact decide_eq_true (by omega)
 | .many k m,_,_,h=>by
  unfold cg at h ⊢
  have:=of_decide_eq_true h
  have:=DD o hp m
  exact decide_eq_true (by omega)
 | .pair w a b,ok,g,h=>by
  unfold cg at h ⊢
  unfold EI at h ⊢
  unfold ma at ok
  unfold fG at g
  by_cases hw:w = "before"
  ·rw[if_pos hw] at h ⊢
   exact MA (Io o hp) h
  ·by_cases hu:w = "under"
   ·rw[if_neg hw,if_pos hu] at h ⊢
    exact JI o o' hp h
   ·rcases ok.1 with e | e | e
    ·exact absurd e hw
    ·exact absurd e hu
    ·exact absurd e (of_decide_eq_true g)
 | .gq true WB,ok,g,h=>by
  unfold cg at h ⊢
  unfold ma at ok
  unfold fG at g
  exact Iq o o' hp WB ok.2 g h
 | .gq false WB,ok,g,h=>by
  unfold cg at h ⊢
  unfold ma at ok
  unfold fG at g
  exact Ir o o' hp WB ok.2 g h
 | .not p,_,g,_=>by
  unfold fG at g
  exact nomatch g
theorem Iq {d:lB}{ps:List Int} (o:yG d) (o':yG (kN d ps)) (hp:placesOk 0 (kM d:Nat) ps):∀ ts:List Tm,Cc ts→vz ts=true→xy (kN d ps) ts=true→xy d ts=true
 | [],_,_,_=>by unfold xy;rfl
 | p::ts,ok,g,h=>by
  unfold xy at h ⊢
  unfold Cc at ok
  unfold vz at g
  rw[Bool.and_eq_true] at h g ⊢
  exact⟨vA o o' hp p ok.1 g.1 h.1,Iq o o' hp ts ok.2 g.2 h.2⟩
theorem Ir {d:lB}{ps:List Int} (o:yG d) (o':yG (kN d ps)) (hp:placesOk 0 (kM d:Nat) ps):∀ ts:List Tm,Cc ts→vz ts=true→xA (kN d ps) ts=true→xA d ts=true
 | [],_,_,h=>by unfold xA at h;exact nomatch h
 | p::ts,ok,g,h=>by
  unfold xA at h ⊢
  unfold Cc at ok
  unfold vz at g
  rw[Bool.and_eq_true] at g
  rw[Bool.or_eq_true] at h ⊢
  rcases h with h | h
  ·exact .inl (vA o o' hp p ok.1 g.1 h)
  ·exact .inr (Ir o o' hp ts ok.2 g.2 h)
end
def og (ad:jw):Sp:=fun vs H Q _=>∃ (p:Addr) (m:Str),vs=[.ref p]∧eB ad H (.ref p) (.has m)∧ma (.has m)∧∀ H',aq H H'→Q (.bl (fG (.has m))) H'
def mC (ad:jw):Sp:=fun vs H Q _=>∃ (p:Addr) (k:Int) (m:Str),vs=[.ref p]∧eB ad H (.ref p) (.many k m)∧ma (.many k m)∧∀ H',aq H H'→Q (.bl (fG (.many k m))) H'
def jS (ad:jw):Sp:=fun vs H Q _=>∃ (p:Addr) (a b:Str),vs=[.ref p]∧eB ad H (.ref p) (.pair "before" a b)∧ma (.pair "before" a b)∧∀ H',aq H H'→Q (.bl (fG (.pair "before" a b))) H'
def kO (ad:jw):Sp:=fun vs H Q _=>∃ (p:Addr) (a b:Str),vs=[.ref p]∧eB ad H (.ref p) (.pair "under" a b)∧ma (.pair "under" a b)∧∀ H',aq H H'→Q (.bl (fG (.pair "under" a b))) H'
def jT (ad:jw):Sp:=fun vs H Q _=>∃ (p:Addr) (a b:Str),vs=[.ref p]∧eB ad H (.ref p) (.pair "beside" a b)∧ma (.pair "beside" a b)∧∀ H',aq H H'→Q (.bl (fG (.pair "beside" a b))) H'
def jh (ad:jw) (n:Nat):Sp:=fun vs H Q _=>∃ (p:Addr) (b:Bool) (ps:List Tm),vs=[.ref p]∧eB ad H (.ref p) (.gq b ps)∧ma (.gq b ps)∧yB ps+1<n∧∀ H',aq H H'→Q (.bl (fG (.gq b ps))) H'
def oh (ad:jw):Sp:=fun vs H Q _=>∃ (p:Addr) (t:Tm),vs=[.ref p]∧eB ad H (.ref p) (.not t)∧ma (.not t)∧∀ H',aq H H'→Q (.bl (fG (.not t))) H'
def G0 (C:Addr) (sp:Sp) (H:Hp) (v:V) (Q:VK) (E:XK):Prop:=∃ a dx fs,v=.ref a∧H a=some (.ins C dx fs)∧List.lookup (Str.ofString "grows") fs=none∧sp [v] H Q E
theorem Ly {ad:jw}{H:Hp}{v:V}{tm:Tm}{n:Nat}{Q:VK}{E:XK} (h:eB ad H v tm) (ok:ma tm) (hd:wB tm<n) (k:∀ H',aq H H'→Q (.bl (fG tm)) H') {R1 R2 R3 R4 R5 R6 R7 R8:Prop}
  (f1:G0 ad.Fn (og ad) H v Q E→R1) (f2:G0 ad.rG (mC ad) H v Q E→R2) (f3:G0 ad.iP (jS ad) H v Q E→R3) (f4:G0 ad.Under (kO ad) H v Q E→R4)
  (f5:G0 ad.iQ (jT ad) H v Q E→R5) (f6:G0 ad.All (jh ad n) H v Q E→R6) (f7:G0 ad.Any (jh ad n) H v Q E→R7) (f8:G0 ad.Not (oh ad) H v Q E→R8) :
  ((((((R1∨R2)∨R3)∨R4)∨R5)∨R6)∨R7)∨R8:=by
 cases tm with
 | has m =>
  have h0:=h
  unfold eB at h;obtain⟨a,dx,rfl,h⟩:=h
  exact .inl (.inl (.inl (.inl (.inl (.inl (.inl (f1 ⟨a,dx,_,rfl,h,rfl,a,m,rfl,h0,ok,k⟩)))))))
 | many i m =>
  have h0:=h
  unfold eB at h;obtain⟨a,dx,rfl,h⟩:=h
  exact .inl (.inl (.inl (.inl (.inl (.inl (.inr (f2 ⟨a,dx,_,rfl,h,cX (by decide +kernel) (by decide +kernel),a,i,m,rfl,h0,ok,k⟩)))))))
 | pair w x y =>
  have h0:=h
  unfold eB at h;obtain⟨a,dx,rfl,h⟩:=h
  have NZ:=ok
  unfold ma at ok
  rcases ok.1 with rfl | rfl | rfl
  ·exact .inl (.inl (.inl (.inl (.inl (.inr (f3 ⟨a,dx,_,rfl,h,cX (by decide +kernel) (by decide +kernel),a,x,y,rfl,h0,NZ,k⟩))))))
  ·exact .inl (.inl (.inl (.inl (.inr (f4 ⟨a,dx,_,rfl,h,cX (by decide +kernel) (by decide +kernel),a,x,y,rfl,h0,NZ,k⟩)))))
  ·exact .inl (.inl (.inl (.inr (f5 ⟨a,dx,_,rfl,h,cX (by decide +kernel) (by decide +kernel),a,x,y,rfl,h0,NZ,k⟩))))
 | gq b ps =>
  have h0:=h
  unfold eB at h;obtain⟨a,dx,t,xs,rfl,h,_⟩:=h
  unfold wB at hd
  cases b with
  | true=>exact .inl (.inl (.inr (f6 ⟨a,dx,_,rfl,h,rfl,a,true,ps,rfl,h0,ok,hd,k⟩)))
  | false=>exact .inl (.inr (f7 ⟨a,dx,_,rfl,h,rfl,a,false,ps,rfl,h0,ok,hd,k⟩))
 | not p =>
  have h0:=h
  unfold eB at h;obtain⟨a,dx,x,rfl,h,_⟩:=h
  exact .inr (f8 ⟨a,dx,_,rfl,h,rfl,a,p,rfl,h0,ok,k⟩)
theorem N0 {d:lB} (o:yG d) (w:Str):∀ r∈Dw d w,∃ x y,r=[.str x,.str y]∧d6 x=true∧d6 y=true:=fun r hr=>by
 have m:=DC o w r hr
 obtain⟨p,_,rfl⟩:=List.mem_map.mp hr
 rw[List.all_cons,List.all_cons,Bool.and_eq_true,Bool.and_eq_true] at m
 obtain⟨m1,m2,_⟩:=m
 generalize (bj d).getD p.1 .cU=a at m1
 generalize (bj d).getD p.2 .cU=b at m2
 cases a with
 | str x=>cases b with
  | str y=>exact⟨x,y,rfl,m1,m2⟩
  | _=>exact nomatch (show false=true from m2)
 | _=>exact nomatch (show false=true from m1)
theorem aY.set {H:Hp}:∀ {vs:List V}{ps:List Tm} (i:Nat) {u:V}{t:Tm},aY H vs ps→gA H u t→aY H (vs.set i u) (ps.set i t)
 | [],[],i,_,_,h,_=>by rw[List.set_nil,List.set_nil];exact h
 | x::xs,p::ps,0,u,t,h,hu=>by
  show aY H (u::xs) (t::ps)
  unfold aY at h ⊢
  exact⟨hu,h.2⟩
 | x::xs,p::ps,i+1,u,t,h,hu=>by
  show aY H (x::xs.set i u) (p::ps.set i t)
  unfold aY at h ⊢
  exact⟨h.1,aY.set i h.2 hu⟩
 | [],_::_,_,_,_,h,_=>by unfold aY at h;exact h.elim
 | _::_,[],_,_,_,h,_=>by unfold aY at h;exact h.elim
theorem Fu {H:Hp}{vs:List V}{oO:List Tm}{k:Nat} (i:Nat) {u:V}{t:Tm} (h:aY H vs oO) (ok:Cc oO) (dp:yB oO≤k) (hu:gA H u t) (o:ma t) (d:wB t≤k):∃ oa,aY H (vs.set i u) oa∧Cc oa∧yB oa≤k:=by
 refine⟨oO.set i t,h.set i hu,xt fun p hp=>?_,xu fun p hp=>?_⟩
 ·rcases List.mem_or_eq_of_mem_set hp with h1 | h1
  ·exact i4 ok h1
  ·rw[h1];exact o
 ·rcases List.mem_or_eq_of_mem_set hp with h1 | h1
  ·exact Nat.le_trans (i3 h1) dp
  ·rw[h1];exact d
theorem Gg {H:Hp}{x y:V}{p q:Tm} (h1:gA H x p) (h2:gA H y q):aY H [x,y] [p,q]:=by
 unfold aY
 refine⟨h1,?_⟩
 unfold aY
 refine⟨h2,?_⟩
 unfold aY
 trivial
theorem Gh {p q:Tm} (h1:ma p) (h2:ma q) (b:Bool):ma (.gq b [p,q]):=by
 unfold ma
 refine⟨(show 2≤10 by decide),xt fun t ht=>?_⟩
 rcases List.mem_cons.mp ht with rfl | ht
 ·exact h1
 ·rw[List.mem_singleton.mp ht];exact h2
theorem Gi {p q:Tm}{k:Nat} (h1:wB p≤k) (h2:wB q≤k) (b:Bool):wB (.gq b [p,q])≤k+1:=by
 unfold wB
 have:yB [p,q]≤k:=xu fun t ht=>by
  rcases List.mem_cons.mp ht with rfl | ht
  ·exact h1
  ·rw[List.mem_singleton.mp ht];exact h2
 omega
theorem DE:∀ ps,vz ps=ps.all fG
 | []=>by unfold vz;rfl
 | p::ps=>by unfold vz;rw[List.all_cons,DE ps]
theorem PX {n:Nat}{idx:List Int} (h:placesOk 0 (n:Int) idx):placesOk 1 ((n+1:Nat):Int) (idx.map (·+1)):=by
 obtain⟨h1,h2⟩:=aR.mp h
 refine aR.mpr ⟨fun p hp=>?_,?_⟩
 ·obtain⟨q,hq,rfl⟩:=List.mem_map.mp hp
  have:=h1 q hq
  omega
 ·rw[List.pairwise_map]
  exact h2.imp fun h=>by omega
theorem Lz {a:Int}{n:Nat}{l idx:List Int} (h:placesOk 0 (n:Int) idx):both (a::l) (idx.map (·+1))=both l idx:=by
 unfold both
 rw[List.map_map]
 refine List.map_congr_left fun q hq=>?_
 have:=((aR.mp h).1 q hq).1
 show (a::l).getD (q+1).toNat 0=_
 rw[show (q+1).toNat=q.toNat+1 by omega]
 rfl
theorem Pc {ps qs:List Int} (h:ps.Sublist qs):∃ idx,placesOk 0 qs.length idx∧both qs idx=ps:=by
 induction h with
 | slnil=>exact⟨[],trivial,rfl⟩
 | @cons l1 l2 a _ ih =>
  obtain⟨idx,h1,h2⟩:=ih
  have u:=aR.mp (PX h1)
  exact⟨idx.map (·+1),aR.mpr ⟨fun p hp=>⟨by have:=(u.1 p hp).1;omega,(u.1 p hp).2⟩,u.2⟩,(Lz h1).trans h2⟩
 | @cons_cons l1 l2 a _ ih =>
  obtain⟨idx,h1,h2⟩:=ih
  refine⟨0::idx.map (·+1),⟨Int.le_refl _,Int.natCast_pos.mpr (Nat.succ_pos _),PX h1⟩,?_⟩
  show a::both (a::l2) (idx.map (·+1))=_
  rw[Lz h1,h2]
theorem xB {i:Nat}{ps:List Int} (h:placesOk 0 (i:Int) ps):placesOk 0 ((i+1:Nat):Int) (ps++[(i:Int)]):=by
 obtain⟨h1,h2⟩:=aR.mp h
 refine aR.mpr ⟨fun p hp=>?_,?_⟩
 ·rcases List.mem_append.mp hp with hp | hp
  ·have:=h1 p hp
   omega
  ·rw[List.mem_singleton.mp hp]
   omega
 ·rw[List.pairwise_append]
  refine⟨h2,List.pairwise_singleton _ _,fun x hx y hy=>?_⟩
  rw[List.mem_singleton.mp hy]
  exact (h1 x hx).2
theorem Bf {i:Nat}{ps:List Int} (h:placesOk 0 (i:Int) ps):placesOk 0 ((i+1:Nat):Int) ps:=by
 obtain⟨h1,h2⟩:=aR.mp h
 exact aR.mpr ⟨fun p hp=>by have:=h1 p hp;omega,h2⟩
def wF (ad:jw) (C:Addr) (sp:Sp) (H:Hp) (v:V) (d:lB) (Q:VK) (E:XK):Prop:=∃ a dx fs,v=.ref a∧H a=some (.ins C dx fs)∧List.lookup (Str.ofString "holds") fs=none∧∀ q H1,aq H H1→il ad H1 q d→sp [v,.ref q] H1 Q E
theorem DF {ad:jw}{H:Hp}{v:V}{d:lB}{tm:Tm}{n:Nat}{Q:VK}{E:XK} (h:eB ad H v tm) (ok:ma tm) (hd:wB tm<n) (k:∀ H',aq H H'→yG d→Q (.bl (cg d tm)) H') {R1 R2 R3 R4 R5 R6 R7 R8:Prop}
  (f1:wF ad ad.Fn (iE ad) H v d Q E→R1) (f2:wF ad ad.rG (gS ad) H v d Q E→R2) (f3:wF ad ad.iP (fB ad) H v d Q E→R3) (f4:wF ad ad.Under (gg ad) H v d Q E→R4) (f5:wF ad ad.iQ (fE ad) H v d Q E→R5) (f6:wF ad ad.All (iF ad n) H v d Q E→R6) (f7:wF ad ad.Any (iG ad n) H v d Q E→R7) (f8:wF ad ad.Not (iH ad n) H v d Q E→R8) :
  ((((((R1∨R2)∨R3)∨R4)∨R5)∨R6)∨R7)∨R8:=by
 cases tm with
 | has m =>
  have h0:=h
  unfold eB at h;obtain⟨a,dx,rfl,h⟩:=h
  exact .inl (.inl (.inl (.inl (.inl (.inl (.inl (f1 ⟨a,dx,_,rfl,h,rfl,fun q H1 s hq=>⟨a,q,d,m,rfl,h0.same s,ok,hq,fun H' s'=>k H' (s.trans s') hq.ok⟩⟩)))))))
 | many i m =>
  have h0:=h
  unfold eB at h;obtain⟨a,dx,rfl,h⟩:=h
  exact .inl (.inl (.inl (.inl (.inl (.inl (.inr (f2 ⟨a,dx,_,rfl,h,cX (by decide +kernel) (by decide +kernel),fun q H1 s hq=>⟨a,q,d,i,m,rfl,h0.same s,ok,hq,fun H' s'=>k H' (s.trans s') hq.ok⟩⟩)))))))
 | pair w x y =>
  have h0:=h
  unfold eB at h;obtain⟨a,dx,rfl,h⟩:=h
  have NZ:=ok
  unfold ma at ok
  rcases ok.1 with rfl | rfl | rfl
  ·exact .inl (.inl (.inl (.inl (.inl (.inr (f3 ⟨a,dx,_,rfl,h,cX (by decide +kernel) (by decide +kernel),fun q H1 s hq=>⟨a,q,d,x,y,rfl,h0.same s,NZ,hq,fun H' s'=>k H' (s.trans s') hq.ok⟩⟩))))))
  ·exact .inl (.inl (.inl (.inl (.inr (f4 ⟨a,dx,_,rfl,h,cX (by decide +kernel) (by decide +kernel),fun q H1 s hq=>⟨a,q,d,x,y,rfl,h0.same s,NZ,hq,fun H' s'=>k H' (s.trans s') hq.ok⟩⟩)))))
  ·exact .inl (.inl (.inl (.inr (f5 ⟨a,dx,_,rfl,h,cX (by decide +kernel) (by decide +kernel),fun q H1 s hq=>⟨a,q,d,x,y,rfl,h0.same s,NZ,hq,fun H' s'=>k H' (s.trans s') hq.ok⟩⟩))))
 | gq b ps =>
  have h0:=h
  unfold eB at h;obtain⟨a,dx,t,xs,rfl,h,_⟩:=h
  unfold wB at hd
  cases b with
  | true=>exact .inl (.inl (.inr (f6 ⟨a,dx,_,rfl,h,rfl,fun q H1 s hq=>⟨a,q,d,ps,rfl,h0.same s,ok,hq,hd,fun H' s'=>k H' (s.trans s') hq.ok⟩⟩)))
  | false=>exact .inl (.inr (f7 ⟨a,dx,_,rfl,h,rfl,fun q H1 s hq=>⟨a,q,d,ps,rfl,h0.same s,ok,hq,hd,fun H' s'=>k H' (s.trans s') hq.ok⟩⟩))
 | not p =>
  have h0:=h
  unfold eB at h;obtain⟨a,dx,x,rfl,h,_⟩:=h
  unfold wB at hd
  exact .inr (f8 ⟨a,dx,_,rfl,h,rfl,fun q H1 s hq=>⟨a,q,d,p,rfl,h0.same s,ok,hq,hd,fun H' s'=>k H' (s.trans s') hq.ok⟩⟩)
theorem G0.go {C:Addr}{sp:Sp}{H:Hp}{v:V}{Q:VK}{E:XK} (h:G0 C sp H v Q E):∃ a,v=.ref a∧∃ x y,H a=some (.ins C x y)∧List.lookup (Str.ofString "grows") y=none∧sp [v] H Q E:=let ⟨a,x,y,e,h1,h2,s⟩:=h;⟨a,e,x,y,h1,h2,s⟩
theorem wF.go {ad:jw}{C:Addr}{sp:Sp}{H:Hp}{v:V}{d:lB}{Q:VK}{E:XK}{q:Addr} (hq:il ad H q d) (h:wF ad C sp H v d Q E):∃ a,v=.ref a∧∃ x y,H a=some (.ins C x y)∧List.lookup (Str.ofString "holds") y=none∧sp [v,.ref q] H Q E:=let ⟨a,x,y,e,h1,h2,s⟩:=h;⟨a,e,x,y,h1,h2,s q H (aq.refl _) hq⟩
theorem wF.left {ad:jw}{C:Addr}{sp:Sp}{H:Hp}{v:V}{d:lB}{ps:List Int}{Q:VK}{E E':XK}{p f:Addr} (hT:il ad H p d) (hp:placesOk 0 (kM d:Nat) ps) (hf:H f=some (.lst (ps.map V.int))) (h:wF ad C sp H v (kN d ps) Q E):∃ a,v=.ref a∧∃ x y,H a=some (.ins C x y)∧List.lookup (Str.ofString "holds") y=none ∧
  (((∃ x y,H p=some (.ins ad.Row x y)∧List.lookup (Str.ofString "left") y=none∧qd ad [.ref p,.ref f] H (fun w H2=>sp [v,w] H2 Q E) E')∨∃ x y,H p=some (.ins ad.cF x y)∧List.lookup (Str.ofString "left") y=none∧kL ad [.ref p,.ref f] H (fun w H2=>sp [v,w] H2 Q E) E')∨∃ x y,H p=some (.ins ad.Table x y)∧List.lookup (Str.ofString "left") y=none∧mr ad [.ref p,.ref f] H (fun w H2=>sp [v,w] H2 Q E) E'):=by
 obtain⟨a,x,y,e,h1,h2,s⟩:=h
 exact⟨a,e,x,y,h1,h2,NR (fun F=>F (.ref f) H) hT hp (fun F kF=>kF f H (aq.refl _) hf) fun q H' s' hq=>s q H' s' hq⟩
theorem grown {ad:jw}{d:lB}{ps qs:List Int}{tm:Tm} (o:yG d) (op:yG (kN d ps)) (oq:yG (kN d qs)) (hs:ps.Sublist qs) (hq:placesOk 0 (kM d:Nat) qs) (ok:ma tm) (g:fG tm=true) (h:cg (kN d ps) tm=true):cg (kN d qs) tm=true∧cg d tm=true:=by
 obtain⟨idx,hi,rfl⟩:=Pc hs
 have e:=JD o hq hi
 rw[←e] at h op
 have h2:=vA oq op (by rw[NQ o hq];exact hi) tm ok g h
 exact⟨h2,vA o oq hq tm ok g h2⟩
def vB:Sp:=fun vs H Q _=>∃ (l pl:Addr) (d:lB) (ps:List Int),vs=[.int (eE d),.ref l,.ref pl]∧oZ H l d∧yG d∧H pl=some (.lst (ps.map V.int))∧placesOk 0 (kM d:Nat) ps∧∀ l' d' H',aq H H'→oZ H' l' d'→eE d'=eE d→yG d'→Q (.ref l') H'
def vC:Sp:=fun vs H Q _=>∃ (l:Addr) (d:lB),vs=[.int (eE d),.ref l]∧oZ H l d∧yG d∧∀ H',aq H H'→Q (.int (kM d:Nat)) H'
def oj:Sp:=fun vs H Q _=>∃ (l:Addr) (d:lB) (c:Int),vs=[.int (eE d),.ref l,.int c]∧oZ H l d∧yG d∧bj d≠[]∧∀ v tm H',aq H H'→gA H' v tm→ma tm→wB tm=0→Q v H'
def qA (K:PySem.W.Frag):Sp:=fun vs H Q _=>∃ (a l:Addr) (ns:List Int) (d:lB) (v:V) (tm:Tm),vs=[.ref a,.int (eE d),.ref l,v]∧bA K H a (ns.map V.int)∧oZ H l d∧yG d∧gA H v tm∧ma tm∧wB tm<10∧∀ v tm H',aq H H'→gA H' v tm→ma tm→wB tm<13→Q v H'
theorem JJ {tt:TT}{σ:St}{H:Hp}{G:Bool→Hp→Prop} (S:Bool→Hp→Prop) (h:∀ G':Bool→Hp→Prop,(∀ b H1,S b H1→G' b H1)→tt σ H G') (g:∀ b H1,S b H1→G b H1):tt σ H G:=h _ g
theorem Fv {K:PySem.W.Frag}{x0 x1 x2 x3 x5 x6 x7:Option V}{H:Hp}{p:Addr}{vs:List V}{sz:Nat}{tw:TE}{Q:VK} (hp:H p=some (.lst vs)) (z0:0<sz) (zl:sz≤vs.length) (l20:vs.length≤20)
  (hw:∀ (J:Hp) (R:VK),aq H J→(∀ bb J',aq J J'→R (.str (wJ bb)) J')→tw [x0,x1,x2,x3,some (.ref p),x5,x6,x7,some (.int (sz:Nat))] J R)
  (k:∀ bb q6 q8 J8,aq H J8→H q8=none→J8 q6=some (.tup (.str (wJ bb)::vs.drop (vs.length-sz)))→J8 q8=some (.lst (vs.take (vs.length-sz)++[.ref q6]))→Q (.ref q8) J8) :
  (tOp rCat (tSl (rSlL K) (tVar 4) tNoPart (tPart (tUn (rU fun i=>V.int (-i)) (tVar 8)))) (tLst (tCons (tOp (rCatT K) (tTup (tCons tw tNil)) (tCB (rTupL K) (tCons (tSl (rSlL K) (tVar 4) (tPart (tUn (rU fun i=>V.int (-i)) (tVar 8))) tNoPart) tNil))) tNil))) [x0,x1,x2,x3,some (.ref p),x5,x6,x7,some (.int (sz:Nat))] H Q:=by
 and_intros
 refine⟨_,bA.of hp,fun q1 h1=>?_⟩
 rw[O8 (n:=sz) z0 zl]
 have t1:=aq.put (o:=.lst (vs.take (vs.length-sz))) h1
 have g1:(upd H q1 (.lst (vs.take (vs.length-sz)))) q1=some (.lst (vs.take (vs.length-sz))):=ag
 generalize (upd H q1 (.lst (vs.take (vs.length-sz))))=J1 at t1 g1 ⊢
 refine hw J1 _ t1 fun bb J2 t2=>?_
 have Pd:=t1.trans t2
 have Zg:=t2 _ _ g1
 refine⟨by decide,fun q3 h3=>?_⟩
 have t3:=aq.put (o:=.tup [.str (wJ bb)]) h3
 have g3:(upd J2 q3 (.tup [.str (wJ bb)])) q3=some (.tup [.str (wJ bb)]):=ag
 generalize (upd J2 q3 (.tup [.str (wJ bb)]))=J3 at t3 g3 ⊢
 refine⟨_,bA.of (t3 _ _ (Pd _ _ hp)),fun q4 h4=>?_⟩
 rw[Mu (n:=sz) z0 zl]
 have t4:=aq.put (o:=.lst (vs.drop (vs.length-sz))) h4
 have g4:(upd J3 q4 (.lst (vs.drop (vs.length-sz)))) q4=some (.lst (vs.drop (vs.length-sz))):=ag
 generalize (upd J3 q4 (.lst (vs.drop (vs.length-sz))))=J4 at t4 g4 ⊢
 refine⟨_,bA.of g4,fun q5 h5=>?_⟩
 have t5:=aq.put (o:=.tup (vs.drop (vs.length-sz))) h5
 have g5:(upd J4 q5 (.tup (vs.drop (vs.length-sz)))) q5=some (.tup (vs.drop (vs.length-sz))):=ag
 generalize (upd J4 q5 (.tup (vs.drop (vs.length-sz))))=J5 at t5 g5 ⊢
 have ne:vs.drop (vs.length-sz)≠[]:=fun e=>by
  have:=congrArg List.length e
  rw[List.length_drop,List.length_nil] at this
  omega
 refine⟨_,df.of (t5 _ _ (t4 _ _ g3)),_,df.of g5,by simp,?_,fun e=>absurd e ne,fun _ q6 h6=>?_⟩
 ·exact Nat.le_of_lt (ay (by rw[List.length_drop];simp only[List.length_cons,List.length_nil];omega))
 have t6:=aq.put (o:=.tup ([.str (wJ bb)]++vs.drop (vs.length-sz))) h6
 have g6:(upd J5 q6 (.tup ([.str (wJ bb)]++vs.drop (vs.length-sz)))) q6=some (.tup (.str (wJ bb)::vs.drop (vs.length-sz))):=ag
 generalize (upd J5 q6 (.tup ([.str (wJ bb)]++vs.drop (vs.length-sz))))=J6 at t6 g6 ⊢
 refine⟨by decide,fun q7 h7=>?_⟩
 have t7:=aq.put (o:=.lst [.ref q6]) h7
 have g7:(upd J6 q7 (.lst [.ref q6])) q7=some (.lst [.ref q6]):=ag
 generalize (upd J6 q7 (.lst [.ref q6]))=J7 at t7 g7 ⊢
 have XN:=(((t3.trans t4).trans t5).trans t6).trans t7
 refine⟨_,XN _ _ Zg,_,g7,?_,fun q8 h8=>?_⟩
 ·exact Nat.le_of_lt (ay (by rw[List.length_take];simp only[List.length_cons,List.length_nil];omega))
 have XO:=Pd.trans XN
 exact k bb q6 q8 _ (XO.upd h8) (aq.free XO h8) ((aq.put h8) _ _ (t7 _ _ g6)) ag
section
variable {P:Program}{w:World}{K:PySem.W.Frag}{mg:Str→Option Value}{base:Heap}{ad:jw}
theorem Iu {f:Addr}{fd:FuncData} (F:qL K "__init__" "Has.__init__" zc f fd) (T:Txt K mg ad):av P w K mg base bw 1 f fd ["self","mark"] (xw ad):=by
 refine F.ok HX (fun vs H Q E h=>?_) (fun gJ A outer s H vs Q E hr h=>?_)
 ·obtain⟨p,dx,m,rfl,_⟩:=h
  rfl
 ·obtain⟨p,dx,m,rfl,h,k⟩:=h
  refine⟨_,(@ai _ _ _ (qu (pv 0) (pv 1) rfl)),?_⟩
  and_intros
  exact⟨ad.Fn,dx,[],h,T.tV,T.Ca,by decide,k⟩
theorem Bg {f:Addr}{fd:FuncData} (F:qL K "many_of" "Thing.many_of" qy f fd) (T:Txt K mg ad):av P w K mg base bw 1 f fd ["self","mark"] (pd ad):=by
 refine F.ok Bb (fun vs H Q E h=>?_) (fun gJ A outer s H vs Q E hr h=>?_)
 ·obtain⟨p,d,m,rfl,_⟩:=h
  rfl
 ·obtain⟨p,d,m,rfl,h,k⟩:=h
  refine⟨_,(@ai _ _ _ (aK (Mj (bt (pv 0) rfl) (ae (pv 1) af)))),?_⟩
  and_intros
  cases d with
  | row xs =>
   obtain⟨dx,t,h1,h2,h3,h4⟩:=h
   refine⟨ad.Row,dx,_,h1,T.fF,T.gp,.ref t,rfl,?_⟩
   exact⟨t,rfl,⟨xs,h2⟩,t,rfl,xs,h2.sq,rfl,xq h3,k⟩
  | bJ ns =>
   obtain⟨⟨dx,t1,t2,xs,h1,h2,h3,h4⟩,h5,_⟩:=h
   refine⟨ad.cF,dx,_,h1,T.aU,T.gf,.ref t1,rfl,t1,rfl,⟨_,h2⟩,t1,rfl,_,h2.sq,rfl,?_,k⟩
   rw[List.all_map]
   exact List.all_eq_true.mpr fun _ _=>rfl
  | table ls w =>
   obtain⟨dx,t1,t2,ts,h1,h2,h3,h4,h5,h6,h7⟩:=h
   exact⟨ad.Table,dx,_,h1,T.bz,T.lZ,.ref t1,rfl,t1,rfl,⟨_,h2⟩,t1,rfl,_,h2.sq,rfl,xq (y7 fun l hl=>(h7 l hl).2),k⟩
theorem Gj {f:Addr}{fd:FuncData} (F:qL K "holds" "Has.holds" w9 f fd) (T:Txt K mg ad) {bh:Addr}{fH:FuncData} (dP:av P w K mg base bw 1 bh fH ["self","mark"] (pd ad)) (dQ:Binds K fH ["self","mark"] []) (ji:Meth K ad.Row "many_of" bh) (gs:Meth K ad.cF "many_of" bh) (hJ:Meth K ad.Table "many_of" bh):av P w K mg base bw 2 f fd ["self","thing"] (iE ad):=by
 refine F.ok F0 (fun vs H Q E h=>?_) (fun gJ A outer s H vs Q E hr h=>?_)
 ·obtain⟨p,q,d,m,rfl,_⟩:=h
  rfl
 ·obtain⟨p,q,d,m,rfl,h,ok,ht,k⟩:=h
  unfold eB at h
  obtain⟨a,dx,e,h⟩:=h
  cases e
  have k':=k H (aq.refl _)
  unfold cg at k'
  refine⟨_,(@ai _ _ _ (aK (kc wL (ao (ao (au (pv 1) T.fF ji dP (hr.mono (by decide)) dQ .nil aA (ae (bt (pv 0) rfl) af)) (au (pv 1) T.aU gs dP (hr.mono (by decide)) dQ .nil aA (ae (bt (pv 0) rfl) af))) (au (pv 1) T.bz hJ dP (hr.mono (by decide)) dQ .nil aA (ae (bt (pv 0) rfl) af))) aj (aQ _)))),?_⟩
  and_intros
  have go:∀ {Q':VK}{E:XK},Q' (.int (rM d m:Nat)) H→∃ x Pe G1,H p=some (HO.ins x Pe G1)∧yF K x∧dg K x (Str.ofString "mark")∧∃ x,List.lookup (Str.ofString "mark") G1=some x∧pd ad [V.ref q,x] H Q' E:=fun k2=>⟨ad.Fn,dx,_,h,T.tV,T.Ca,_,rfl,q,d,m,rfl,ht,k2⟩
  have k2:∃ i,V.int (rM d m:Nat)=V.int i∧Q (V.bl (decide (0<i))) H:=⟨_,rfl,by rw[show decide ((0:Int)<((rM d m:Nat):Int))=decide (0<rM d m) by apply decide_eq_decide.mpr;omega];exact k'⟩
  exact Az ht (by decide +kernel) (by decide +kernel) (by decide +kernel) (by decide +kernel) (fun _ _ x y e1 e2=>⟨x,y,e1,e2,go k2⟩) (fun _ _ x y e1 e2=>⟨x,y,e1,e2,go k2⟩) (fun _ _ _ x y e1 e2=>⟨x,y,e1,e2,go k2⟩)
theorem Gk {f:Addr}{fd:FuncData} (F:qL K "grows" "Has.grows" xa f fd) (T:Txt K mg ad):av P w K mg base bw 1 f fd ["self"] (og ad):=by
 refine F.ok F1 (fun vs H Q E h=>?_) (fun gJ A outer s H vs Q E hr h=>?_)
 ·obtain⟨p,m,rfl,_⟩:=h
  rfl
 ·obtain⟨p,m,rfl,h,ok,k⟩:=h
  have k':=k H (aq.refl _)
  unfold fG at k'
  refine⟨_,(@ai _ _ _ (aK jP)),?_⟩
  and_intros
  exact k'
theorem Gm {f:Addr}{fd:FuncData} (F:qL K "__init__" "Many.__init__" xb f fd) (T:Txt K mg ad):av P w K mg base bw 1 f fd ["self","number","mark"] (vt ad):=by
 refine F.ok F2 (fun vs H Q E h=>?_) (fun gJ A outer s H vs Q E hr h=>?_)
 ·obtain⟨p,dx,i,m,rfl,_⟩:=h
  rfl
 ·obtain⟨p,dx,i,m,rfl,h,k⟩:=h
  refine⟨_,(@ah _ _ _ _ _ (qu (pv 0) (pv 1) rfl)
   (@ai _ _ _ (qu (pv 0) (pv 2) rfl))),?_⟩
  and_intros
  refine⟨ad.rG,dx,[],h,T.mM,T.xn,by decide,ad.rG,dx,_,ag,T.mM,T.Ar,show 1<1000 by decide,?_⟩
  rw[qJ,show oR (Str.ofString "mark") (V.str m) (oR (Str.ofString "number") (V.int i) [])=[(Str.ofString "number",V.int i),(Str.ofString "mark",V.str m)] from Li (by decide +kernel)]
  exact k
theorem EJ {f:Addr}{fd:FuncData} (F:qL K "holds" "Many.holds" vb f fd) (T:Txt K mg ad) {bh:Addr}{fH:FuncData} (dP:av P w K mg base bw 1 bh fH ["self","mark"] (pd ad)) (dQ:Binds K fH ["self","mark"] []) (ji:Meth K ad.Row "many_of" bh) (gs:Meth K ad.cF "many_of" bh) (hJ:Meth K ad.Table "many_of" bh):av P w K mg base bw 2 f fd ["self","thing"] (gS ad):=by
 refine F.ok Ez (fun vs H Q E h=>?_) (fun gJ A outer s H vs Q E hr h=>?_)
 ·obtain⟨p,q,d,i0,m,rfl,_⟩:=h
  rfl
 ·obtain⟨p,q,d,i0,m,rfl,h,ok,ht,k⟩:=h
  unfold eB at h
  obtain⟨a,dx,e,h⟩:=h
  cases e
  have k':=k H (aq.refl _)
  unfold cg at k'
  refine⟨_,(@ai _ _ _ (aK (kc M3 (ao (ao (au (pv 1) T.fF ji dP (hr.mono (by decide)) dQ .nil aA (ae (bt (pv 0) rfl) af)) (au (pv 1) T.aU gs dP (hr.mono (by decide)) dQ .nil aA (ae (bt (pv 0) rfl) af))) (au (pv 1) T.bz hJ dP (hr.mono (by decide)) dQ .nil aA (ae (bt (pv 0) rfl) af))) (bt (pv 0) rfl) (aQ _)))),?_⟩
  and_intros
  have go:∀ {Q':VK}{E:XK},Q' (.int (rM d m:Nat)) H→∃ x Pe G1,H p=some (HO.ins x Pe G1)∧yF K x∧dg K x (Str.ofString "mark")∧∃ x,List.lookup (Str.ofString "mark") G1=some x∧pd ad [V.ref q,x] H Q' E:=fun k2=>⟨ad.rG,dx,_,h,T.mM,T.Ar,_,UW (by decide +kernel),q,d,m,rfl,ht,k2⟩
  have k2:∃ JK Rm N1,H p=some (HO.ins JK Rm N1)∧yF K JK∧dg K JK (Str.ofString "number")∧∃ N2,List.lookup (Str.ofString "number") N1=some N2∧∃ i,V.int (rM d m:Nat)=V.int i∧∃ x,N2=V.int x∧Q (V.bl (decide (x≤i))) H:=⟨ad.rG,dx,_,h,T.mM,T.xn,.int i0,by rw[List.lookup_cons,beq_self_eq_true],_,rfl,_,rfl,k'⟩
  exact Az ht (by decide +kernel) (by decide +kernel) (by decide +kernel) (by decide +kernel) (fun _ _ x y e1 e2=>⟨x,y,e1,e2,go k2⟩) (fun _ _ x y e1 e2=>⟨x,y,e1,e2,go k2⟩) (fun _ _ _ x y e1 e2=>⟨x,y,e1,e2,go k2⟩)
theorem EK {f:Addr}{fd:FuncData} (F:qL K "grows" "Many.grows" vd f fd) (T:Txt K mg ad):av P w K mg base bw 1 f fd ["self"] (mC ad):=by
 refine F.ok EA (fun vs H Q E h=>?_) (fun gJ A outer s H vs Q E hr h=>?_)
 ·obtain⟨p,i,m,rfl,_⟩:=h
  rfl
 ·obtain⟨p,i,m,rfl,h,ok,k⟩:=h
  have k':=k H (aq.refl _)
  unfold fG at k'
  refine⟨_,(@ai _ _ _ (aK jP)),?_⟩
  and_intros
  exact k'
theorem Gn {f:Addr}{fd:FuncData} (F:qL K "__init__" "Pair.__init__" xc f fd) (T:Txt K mg ad):av P w K mg base bw 1 f fd ["self","one","other"] (vv ad):=by
 refine F.ok F3 (fun vs H Q E h=>?_) (fun gJ A outer s H vs Q E hr h=>?_)
 ·obtain⟨p,dx,w,a,b,rfl,_⟩:=h
  rfl
 ·obtain⟨p,dx,w,a,b,rfl,h,k⟩:=h
  have cl:yF K (tZ ad w):=by
   unfold tZ
   split
   ·exact T.jd
   ·split
    ·exact T.kK
    ·exact T.je
  have n1:dg K (tZ ad w) "one" := by
   unfold tZ
   split
   ·exact T.yO
   ·split
    ·exact T.As
    ·exact T.yP
  have n2:dg K (tZ ad w) "other" := by
   unfold tZ
   split
   ·exact T.wm
   ·split
    ·exact T.xo
    ·exact T.wo
  refine⟨_,(@ah _ _ _ _ _ (qu (pv 0) (pv 1) rfl)
   (@ai _ _ _ (qu (pv 0) (pv 2) rfl))),?_⟩
  and_intros
  refine⟨tZ ad w,dx,[],h,cl,n1,by decide,tZ ad w,dx,_,ag,cl,n2,show 1<1000 by decide,?_⟩
  rw[qJ,show oR (Str.ofString "other") (V.str b) (oR (Str.ofString "one") (V.str a) [])=[(Str.ofString "one",V.str a),(Str.ofString "other",V.str b)] from Li (by decide +kernel)]
  exact k
theorem CC {f:Addr}{fd:FuncData} (D:Def K mg "stands_ahead" jb ["marks","one","other"] f fd) (T:Txt K mg ad):av P w K mg base bw 1 f fd ["marks","one","other"] (mO K):=by
 refine D.F.ok mK (fun vs H Q E h=>?_) (fun gJ A outer s H vs Q E hr h=>?_)
 ·obtain⟨t,xs,one,other,rfl,_⟩:=h
  rfl
 ·obtain⟨t,xs,one,other,rfl,hq,hm,k⟩:=h
  refine⟨_,(@ah _ _ _ _ _ (aP (i:=3) mK.nd rfl (Or.inl rfl) jP)
   (@ah _ _ _ _ _ (fZ PassesOwn.never rfl (Ms (dU (pv 0)) (wH (pv 0))) (aZ (i:=4) mK.nd rfl (Or.inl rfl))
   (@ah _ _ _ _ _ (cE (PW.pt (pw_and (mS (pv 3)) (pw_and1 (aL dS (pv 4) (pv 2) (aQ _)))))
   (@ai _ _ _ (aK jP))
   aV)
   (@ai _ _ _ (cE (aL dS (pv 4) (pv 1) (aQ _))
   (@ai _ _ _ (aP (i:=3) mK.nd rfl (Or.inl rfl) jP))
   aV))))
   (@ai _ _ _ (aK jP)))),?_⟩
  refine ak fun B hB=>?_
  and_intros
  subst hB
  refine ak fun B hB=>?_
  refine (show tN _ _ _ _ _ _ from ?_)
  unfold tN
  rcases hq with hq | hq
  ·refine .inl ⟨_,rfl,t,rfl,⟨_,hq⟩,jQ (xs:=xs) (fun i σ H'=>H'=H∧∃ o5:Option V,cW one other (xs.take i)=false∧bx σ [some (.ref t),some (.str one),some (.str other),some (.bl ((xs.take i).any (kC one))),o5]) ⟨rfl,none,rfl,bx.rfl⟩ (fun i σ H' _ ⟨e,_⟩=>e▸hq) ?_ ?_⟩
   ·rintro i x σ H' hx ⟨rfl,o5,ha,rfl⟩
    obtain⟨z,rfl⟩:=uM (List.all_eq_true.mp hm x (List.mem_of_getElem? hx))
    have e:xs.take (i+1)=xs.take i++[.str z]:=by rw[List.take_add_one,hx];rfl
    have f:cW one other (xs.take (i+1))=((xs.take i).any (kC one)&&kC other (.str z)):=by
     rw[e,mz,ha]
     simp [cW]
    have g:(xs.take (i+1)).any (kC one)=((xs.take i).any (kC one)||kC one (.str z)):=by rw[e,List.any_append];simp
    have up:cW one other (xs.take (i+1))=true→cW one other xs=true:=fun q=>by
     rw[←List.take_append_drop (i+1) xs,mz,q]
     simp
    have em:∀ m:Str,kC m (.str z)=decide (z=m):=fun m=>by
     show (z==m)=decide (z=m)
     by_cases h:z=m<;>simp [h]
    and_intros
    rw[em] at f g
    generalize (xs.take i).any (kC one)=seen at f g ⊢
    generalize (xs.take (i+1)).any (kC one)=Iv at g ⊢
    have fin:cW one other (xs.take (i+1))=false→(if z=one then cW one other (xs.take (i+1))=false∧∃ x,bx [some (V.ref t),some (V.str one),some (V.str other),some (V.bl true),some (V.str z)] [some (V.ref t),some (V.str one),some (V.str other),some (V.bl Iv),x] else cW one other (xs.take (i+1))=false∧∃ x,bx [some (V.ref t),some (V.str one),some (V.str other),some (V.bl seen),some (V.str z)] [some (V.ref t),some (V.str one),some (V.str other),some (V.bl Iv),x]):=fun f'=>by
     by_cases h1:z=one
     ·rw[if_pos h1,g,decide_eq_true h1,Bool.or_true];exact⟨f',_,bx.rfl⟩
     ·rw[if_neg h1,g,decide_eq_false h1,Bool.or_false];exact⟨f',_,bx.rfl⟩
    by_cases h2:z=other
    ·cases seen
     ·rw[if_neg (by decide)]
      exact fin (by rw[f];rfl)
     ·rw[if_pos rfl,if_pos h2]
      rw[up (by rw[f,decide_eq_true h2];rfl)] at k
      exact k
    ·cases seen
     ·rw[if_neg (by decide)]
      exact fin (by rw[f];rfl)
     ·rw[if_pos rfl,if_neg h2]
      exact fin (by rw[f,decide_eq_false h2];rfl)
   ·rintro σ H' ⟨rfl,o5,ha,rfl⟩
    dsimp only
    subst hB
    and_intros
    rw[List.take_length] at ha
    rw[ha] at k
    exact k
  ·refine .inr ⟨_,rfl,t,rfl,⟨_,hq⟩,FA (xs:=xs) (fun i σ H'=>H'=H∧∃ o5:Option V,cW one other (xs.take i)=false∧bx σ [some (.ref t),some (.str one),some (.str other),some (.bl ((xs.take i).any (kC one))),o5]) ⟨rfl,none,rfl,bx.rfl⟩ (fun i σ H' _ ⟨e,_⟩=>e▸hq) ?_ ?_⟩
   ·rintro i x σ H' hx ⟨rfl,o5,ha,rfl⟩
    obtain⟨z,rfl⟩:=uM (List.all_eq_true.mp hm x (List.mem_of_getElem? hx))
    have e:xs.take (i+1)=xs.take i++[.str z]:=by rw[List.take_add_one,hx];rfl
    have f:cW one other (xs.take (i+1))=((xs.take i).any (kC one)&&kC other (.str z)):=by
     rw[e,mz,ha]
     simp [cW]
    have g:(xs.take (i+1)).any (kC one)=((xs.take i).any (kC one)||kC one (.str z)):=by rw[e,List.any_append];simp
    have up:cW one other (xs.take (i+1))=true→cW one other xs=true:=fun q=>by
     rw[←List.take_append_drop (i+1) xs,mz,q]
     simp
    have em:∀ m:Str,kC m (.str z)=decide (z=m):=fun m=>by
     show (z==m)=decide (z=m)
     by_cases h:z=m<;>simp [h]
    and_intros
    rw[em] at f g
    generalize (xs.take i).any (kC one)=seen at f g ⊢
    generalize (xs.take (i+1)).any (kC one)=Iv at g ⊢
    have fin:cW one other (xs.take (i+1))=false→(if z=one then cW one other (xs.take (i+1))=false∧∃ x,bx [some (V.ref t),some (V.str one),some (V.str other),some (V.bl true),some (V.str z)] [some (V.ref t),some (V.str one),some (V.str other),some (V.bl Iv),x] else cW one other (xs.take (i+1))=false∧∃ x,bx [some (V.ref t),some (V.str one),some (V.str other),some (V.bl seen),some (V.str z)] [some (V.ref t),some (V.str one),some (V.str other),some (V.bl Iv),x]):=fun f'=>by
     by_cases h1:z=one
     ·rw[if_pos h1,g,decide_eq_true h1,Bool.or_true];exact⟨f',_,bx.rfl⟩
     ·rw[if_neg h1,g,decide_eq_false h1,Bool.or_false];exact⟨f',_,bx.rfl⟩
    by_cases h2:z=other
    ·cases seen
     ·rw[if_neg (by decide)]
      exact fin (by rw[f];rfl)
     ·rw[if_pos rfl,if_pos h2]
      rw[up (by rw[f,decide_eq_true h2];rfl)] at k
      exact k
    ·cases seen
     ·rw[if_neg (by decide)]
      exact fin (by rw[f];rfl)
     ·rw[if_pos rfl,if_neg h2]
      exact fin (by rw[f,decide_eq_false h2];rfl)
   ·rintro σ H' ⟨rfl,o5,ha,rfl⟩
    dsimp only
    subst hB
    and_intros
    rw[List.take_length] at ha
    rw[ha] at k
    exact k
theorem zr {f:Addr}{fd:FuncData} (F:qL K "is_before" "Thing.is_before" nP f fd) (T:Txt K mg ad) {eF:Addr}{gB:FuncData} (jj:av P w K mg base bw 1 eF gB ["marks","one","other"] (mO K)) (dI:Def K mg "stands_ahead" jb ["marks","one","other"] eF gB):av P w K mg base bw 2 f fd ["self","one","other"] (lD ad):=by
 refine F.ok zh (fun vs H Q E h=>?_) (fun gJ A outer s H vs Q E hr h=>?_)
 ·obtain⟨p,d,one,other,rfl,_⟩:=h
  rfl
 ·obtain⟨p,d,one,other,rfl,h,k⟩:=h
  refine⟨_,(@ai _ _ _ (aK (aT jj (hr.mono (by decide)) rfl dI.mg dI.F.kp dI.b .nil aA (ae (bt (pv 0) rfl) (ae (pv 1) (ae (pv 2) af)))))),?_⟩
  and_intros
  cases d with
  | row xs =>
   obtain⟨dx,t,h1,h2,h3,h4⟩:=h
   exact⟨ad.Row,dx,_,h1,T.fF,T.gp,.ref t,rfl,t,xs,one,other,rfl,.inr h2.sq,h3,k⟩
  | bJ ns =>
   obtain⟨⟨dx,t1,t2,xs,h1,h2,h3,h4⟩,h5,_⟩:=h
   refine⟨ad.cF,dx,_,h1,T.aU,T.gf,.ref t1,rfl,t1,_,one,other,rfl,.inr h2.sq,?_,k⟩
   rw[List.all_map,List.all_eq_true]
   intro n hn
   exact (nq h5 n hn).1
  | table ls w =>
   obtain⟨dx,t1,t2,ts,h1,h2,h3,h4,h5,h6,h7⟩:=h
   exact⟨ad.Table,dx,_,h1,T.bz,T.lZ,.ref t1,rfl,t1,_,one,other,rfl,.inr h2.sq,y7 fun l hl=>(h7 l hl).2,k⟩
theorem CD {f:Addr}{fd:FuncData} (F:qL K "holds" "Before.holds" rA f fd) (T:Txt K mg ad) {bK:Addr}{jD:FuncData} (iI:av P w K mg base bw 2 bK jD ["self","one","other"] (lD ad)) (iJ:Binds K jD ["self","one","other"] []) (pe:Meth K ad.Row "is_before" bK) (l4:Meth K ad.cF "is_before" bK) (mX:Meth K ad.Table "is_before" bK):av P w K mg base bw 3 f fd ["self","thing"] (fB ad):=by
 refine F.ok Cv (fun vs H Q E h=>?_) (fun gJ A outer s H vs Q E hr h=>?_)
 ·obtain⟨p,q,d,a,b,rfl,_⟩:=h
  rfl
 ·obtain⟨p,q,d,a,b,rfl,h,ok,ht,k⟩:=h
  unfold eB at h
  obtain⟨a',dx,e,h⟩:=h
  cases e
  rw[show tZ ad "before" = ad.iP from if_pos rfl] at h
  unfold ma at ok
  have k':∀ H',aq H H'→Q (.bl (EI d "before" a b)) H':=fun H' s'=>by have:=k H' s';unfold cg at this;exact this
  rw[show EI d "before" a b=cW a b (bj d) from if_pos rfl] at k'
  refine⟨_,(@ai _ _ _ (aK (ao (ao (au (pv 1) T.fF pe iI (hr.mono (by decide)) iJ .nil aA (ae (bt (pv 0) rfl) (ae (bt (pv 0) rfl) af))) (au (pv 1) T.aU l4 iI (hr.mono (by decide)) iJ .nil aA (ae (bt (pv 0) rfl) (ae (bt (pv 0) rfl) af)))) (au (pv 1) T.bz mX iI (hr.mono (by decide)) iJ .nil aA (ae (bt (pv 0) rfl) (ae (bt (pv 0) rfl) af)))))),?_⟩
  and_intros
  have go:∀ {R:V→V→Prop},R (.str a) (.str b)→∃ x Pe G1,H p=some (HO.ins x Pe G1)∧yF K x∧dg K x (Str.ofString "one")∧∃ x,List.lookup (Str.ofString "one") G1=some x∧∃ JK Rm N1,H p=some (HO.ins JK Rm N1)∧yF K JK∧dg K JK (Str.ofString "other")∧∃ N2,List.lookup (Str.ofString "other") N1=some N2∧R x N2 :=
   fun r=>⟨ad.iP,dx,_,h,T.jd,T.yO,.str a,by rw[List.lookup_cons,beq_self_eq_true],ad.iP,dx,_,h,T.jd,T.wm,.str b,UW (by decide +kernel),r⟩
  exact Az ht (by decide +kernel) (by decide +kernel) (by decide +kernel) (by decide +kernel) (fun xs ed x y e1 e2=>⟨x,y,e1,e2,go (R:=fun u v=>lD ad [.ref q,u,v] H Q E0) ⟨q,d,a,b,rfl,ht,k' H (aq.refl _)⟩⟩) (fun ns ed x y e1 e2=>⟨x,y,e1,e2,go (R:=fun u v=>lD ad [.ref q,u,v] H Q E0) ⟨q,d,a,b,rfl,ht,k' H (aq.refl _)⟩⟩) (fun ls w ed x y e1 e2=>⟨x,y,e1,e2,go (R:=fun u v=>lD ad [.ref q,u,v] H Q E0) ⟨q,d,a,b,rfl,ht,k' H (aq.refl _)⟩⟩)
theorem CF {f:Addr}{fd:FuncData} (F:qL K "grows" "Before.grows" rB f fd) (T:Txt K mg ad):av P w K mg base bw 1 f fd ["self"] (jS ad):=by
 refine F.ok Cw (fun vs H Q E h=>?_) (fun gJ A outer s H vs Q E hr h=>?_)
 ·obtain⟨p,a,b,rfl,_⟩:=h
  rfl
 ·obtain⟨p,a,b,rfl,h,ok,k⟩:=h
  have k':=k H (aq.refl _)
  unfold fG at k'
  rw[show decide (¬ (("before" : Str) = "beside"))=true by decide +kernel] at k'
  refine⟨_,(@ai _ _ _ (aK jP)),?_⟩
  and_intros
  exact k'
theorem CG {f:Addr}{fd:FuncData} (F:qL K "is_under" "Row.is_under" rE f fd) (T:Txt K mg ad):av P w K mg base bw 1 f fd ["self","one","other"] mP:=by
 refine F.ok CA (fun vs H Q E h=>?_) (fun gJ A outer s H vs Q E hr h=>?_)
 ·obtain⟨p,a,b,rfl,_⟩:=h
  rfl
 ·obtain⟨p,a,b,rfl,k⟩:=h
  refine⟨_,(@ai _ _ _ (aK jP)),?_⟩
  and_intros
  exact k
theorem Gp {f:Addr}{fd:FuncData} (D:Def K mg "places_of" ny ["marks","mark"] f fd) (T:Txt K mg ad):av P w K mg base bw 1 f fd ["marks","mark"] (vq K):=by
 refine D.F.ok F5 (fun vs H Q E h=>?_) (fun gJ A outer s H vs Q E hr h=>?_)
 ·obtain⟨t,xs,m,rfl,_⟩:=h
  rfl
 ·obtain⟨t,xs,m,rfl,hq,hm,hl,k⟩:=h
  refine⟨_,(@ai _ _ _ (aK (fP (own:=["place","found"]) (cap:=["mark"]) (ix:=[1]) rfl (show br ["marks","mark"] (ar ny) _ ["place","found"] ["mark"] [1] from ⟨rfl,by decide +kernel,by decide +kernel,by decide +kernel,by decide +kernel,by decide +kernel,by decide +kernel,rfl,by decide +kernel⟩) (Hx rfl T.enumerate (ae (pv 0) af)) (fun C s₀ H₀ ex pn=>⟨(show PG _ _ (gTup K 2 (gCons (gName 0) (gCons (gName 1) gNil))) from Jx (i:=0) (j:=1) rfl (show (["place","found","mark"]:List Str).Nodup by decide +kernel) rfl rfl (Or.inl rfl) (Or.inl rfl)),(wR (aL dS (pv 1) (pv 2) (aQ _))),(pv 0)⟩)))),?_⟩
  and_intros
  refine HP (K:=K) (a:=t) (xs:=xs) (H1:=H) (fun R rr=>⟨_,rfl,t,rfl,⟨_,hq⟩,rr⟩) (fun i ys H'=>aq H H'∧ys=(idxs (kC m) 0 (xs.take i)).map V.int) ⟨aq.refl _,rfl⟩ (fun i ys H' _ ⟨e,_⟩=>df.same e hq) ?_ ?_
  ·rintro i x ys H' T' R hx ⟨s1,rfl⟩ hT hR
   obtain⟨z,rfl⟩:=uM (List.all_eq_true.mp hm x (List.mem_of_getElem? hx))
   have hi:=(List.getElem?_eq_some_iff.mp hx).1
   have e:=Ml (P:=kC m) hx
   and_intros
   have l1:((idxs (kC m) 0 (xs.take i)).map V.int).length<sizeLine:=by
    rw[List.length_map]
    have e1:=Lo (kC m) (xs.take i) 0
    rw[List.length_take] at e1
    exact ay (by omega)
   have em:kC m (.str z)=decide (z=m):=by
    show (z==m)=decide (z=m)
    by_cases h:z=m<;>simp [h]
   rw[em] at e
   by_cases hz:z=m
   ·rw[if_pos hz]
    rw[if_pos (decide_eq_true hz)] at e
    exact⟨l1,hR _ _ ⟨s1.upd hT,by rw[e,List.map_append];rfl⟩⟩
   ·rw[if_neg hz]
    rw[if_neg (by simp [hz]),List.append_nil] at e
    exact hR _ _ ⟨s1.upd hT,by rw[e]⟩
  ·rintro ys H' ⟨s1,rfl⟩
   rw[List.take_length]
   exact⟨by rw[List.length_map];have:=Lo (kC m) xs 0;exact Nat.le_of_lt (ay (by omega)),fun D hD=>k D _ (aq.none s1 hD) (s1.upd hD) ag⟩
theorem zu {f:Addr}{fd:FuncData} (F:qL K "standing" "Forest.standing" nQ f fd) (T:Txt K mg ad) {kP:Addr}{qQ:FuncData} (xC:av P w K mg base bw 1 kP qQ ["marks","mark"] (vq K)) (nA:Def K mg "places_of" ny ["marks","mark"] kP qQ):av P w K mg base bw 2 f fd ["self","mark"] (jA ad):=by
 refine F.ok zi (fun vs H Q E h=>?_) (fun gJ A outer s H vs Q E hr h=>?_)
 ·obtain⟨p,ns,m,rfl,_⟩:=h
  rfl
 ·obtain⟨p,ns,m,rfl,⟨⟨dx,t1,t2,xs,h1,h2,h3,h4⟩,h5,h6⟩,k⟩:=h
  refine⟨_,(@ai _ _ _ (aK (aT xC (hr.mono (by decide)) rfl nA.mg nA.F.kp nA.b .nil aA (ae (bt (pv 0) rfl) (ae (pv 1) af))))),?_⟩
  and_intros
  refine⟨ad.cF,dx,_,h1,T.aU,T.gf,.ref t1,rfl,t1,_,m,rfl,h2.sq,?_,by rw[List.length_map];omega,k⟩
  rw[List.all_map,List.all_eq_true]
  intro n hn
  exact (nq h5 n hn).1
theorem Iw {f:Addr}{fd:FuncData} (D:Def K mg "marks_at" kE ["marks","places"] f fd) (T:Txt K mg ad):av P w K mg base bw 1 f fd ["marks","places"] (qc K):=by
 refine D.F.ok Ia (fun vs H Q E h=>?_) (fun gJ A outer s H vs Q E hr h=>?_)
 ·obtain⟨t,a,xs,ps,rfl,_⟩:=h
  rfl
 ·obtain⟨t,a,xs,ps,rfl,ht,ha,Ex,hl,k⟩:=h
  refine⟨_,(@ai _ _ _ (aK (fP (own:=["place"]) (cap:=["marks"]) (ix:=[0]) rfl (show br ["marks","places"] (ar kE) _ ["place"] ["marks"] [0] from ⟨rfl,by decide +kernel,by decide +kernel,by decide +kernel,by decide +kernel,by decide +kernel,by decide +kernel,rfl,by decide +kernel⟩) (dU (pv 1)) (fun C s₀ H₀ ex pn=>⟨aZ (i:=0) (show (["place","marks"]:List Str).Nodup by decide +kernel) rfl (Or.inl rfl),fh,(bo (show GX _ (rIxT K) from cT) (pv 1) (pv 0) (fun _ _=>rfl))⟩)))),?_⟩
  and_intros
  refine fi (a:=a) (xs:=ps.map V.int) (H1:=H) (fun R rr=>⟨_,rfl,a,rfl,⟨_,bA.of ha⟩,rr⟩) (fun i ys H'=>H'=H∧ys=(ps.take i).map fun p=>xs.getD p.toNat .cU) ⟨rfl,rfl⟩ (fun i ys H' _ ⟨e,_⟩=>e▸bA.of ha) ?_ ?_
  ·rintro i x ys H' R hx ⟨rfl,rfl⟩ hR
   rw[List.getElem?_map] at hx
   obtain⟨p,ep,rfl⟩:=Option.map_eq_some_iff.mp hx
   obtain⟨p0,p1⟩:=Ex p (List.mem_of_getElem? ep)
   simp only[wQ]
   and_intros
   obtain⟨pn,rfl⟩:=Int.eq_ofNat_of_zero_le p0
   have XQ:pn<xs.length:=by omega
   refine⟨_,ht,xs[pn],bT (List.getElem?_eq_getElem XQ),?_,hR _ _ ⟨rfl,?_⟩⟩
   ·rw[List.length_map,List.length_take];exact ay (by omega)
   ·rw[List.take_add_one,ep,List.map_append]
    congr 1
    simp only[Option.toList,List.map_cons,List.map_nil,Int.toNat_natCast,List.getD_eq_getElem?_getD,List.getElem?_eq_getElem XQ,Option.getD_some]
  ·rintro ys H' ⟨rfl,rfl⟩
   rw[show (ps.map V.int).length=ps.length from List.length_map _,List.take_length]
   exact⟨by rw[List.length_map];exact Nat.le_of_lt (ay (by omega)),k⟩
theorem DG {f:Addr}{fd:FuncData} (F:qL K "many" "Forest.many" tS f fd) (T:Txt K mg ad):av P w K mg base bw 1 f fd ["self"] (Au ad):=by
 refine F.ok Du (fun vs H Q E h=>?_) (fun gJ A outer s H vs Q E hr h=>?_)
 ·obtain⟨p,ns,rfl,_⟩:=h
  rfl
 ·obtain⟨p,ns,rfl,⟨dx,t1,t2,xs,h1,h2,h3,h4⟩,k⟩:=h
  refine⟨_,(@ai _ _ _ (aK (aS uH rfl T.len PySem.boot_len (ae (bt (pv 0) rfl) af)))),?_⟩
  and_intros
  refine⟨ad.cF,dx,_,h1,T.aU,T.gy,.ref t2,u7 (by decide +kernel),t2,rfl,_,df.of h3,?_⟩
  rw[h4.length]
  exact k
theorem AG {f:Addr}{fd:FuncData} (F:qL K "hanging" "Forest.hanging" oW f fd) (T:Txt K mg ad) {cY:Addr}{eG:FuncData} (fQ:av P w K mg base bw 1 cY eG ["self"] (Au ad)) (fR:Binds K eG ["self"] []) (fj:Meth K ad.cF "many" cY):av P w K mg base bw 2 f fd ["self","place"] (kj ad):=by
 refine F.ok nW (fun vs H Q E h=>?_) (fun gJ A outer s H vs Q E hr h=>?_)
 ·obtain⟨p,ns,k0,rfl,_⟩:=h
  rfl
 ·obtain⟨p,ns,k0,rfl,ho,hk,k⟩:=h
  refine⟨_,(@ah _ _ _ _ _ (aP (i:=2) nW.nd rfl (Or.inl rfl) (aI dF (pv 1) aj))
   (@ah _ _ _ _ _ (CZ PassesOwn.never (PW.pt (pw_and (aL wK (pv 2) (eo (pv 0) T.aU fj fQ (hr.mono (by decide)) fR .nil aA) (aQ _)) (pw_and1 (aL wL (bo cT (bo cT (bt (pv 0) rfl) (pv 2) (fun _ _=>rfl)) aj (fun _ _=>rfl)) (bo cT (bo cT (bt (pv 0) rfl) (pv 1) (fun _ _=>rfl)) aj (fun _ _=>rfl)) (aQ _)))))
   (@ai _ _ _ (Qn (i:=2) nW.nd rfl (Or.inl rfl) aj Qo)))
   (@ai _ _ _ (aK (fw (Jt rfl) rfl T.list PyProof.Rows.boot_list (ae (fw FW rfl T.range PyProof.Rows.boot_range (ae (pv 1) (ae (pv 2) af))) af)))))),?_⟩
  obtain⟨hp,hd,hl⟩:=id ho
  obtain⟨dx,t1,t2,xs,h1,h2,h3,h4⟩:=id hp
  have hlen:=h4.length
  refine ak fun B hB=>?_
  and_intros
  subst hB
  refine ak fun B hB=>?_
  and_intros
  have TR:ns[k0]? = some ns[k0]:=List.getElem?_eq_getElem hk
  have eD:(ns.getD k0 ("",0)).2=ns[k0].2:=by rw[List.getD_eq_getElem?_getD,TR];rfl
  have tl:=yA ns k0
  obtain⟨n0,N3,t0,Cu,EL⟩:=h4.get (List.getElem?_eq_getElem (by omega:k0<xs.length))
  have e0:qr xs (k0:Int)=some (.ref t0):=by rw[←Cu];exact bT (List.getElem?_eq_getElem (by omega))
  rw[TR] at N3
  cases N3
  refine⟨fun m σ H'=>H'=H∧∃ j:Nat,j+m=bH ns k0∧bx σ [some (.ref p),some (.int (k0:Nat)),some (.int ((k0:Int)+1+(j:Int)))],⟨bH ns k0,rfl,0,by omega,by rw[show (k0:Int)+1+((0:Nat):Int)=(k0:Int)+1 by omega];exact bx.rfl⟩,?_⟩
  rintro m σ H' ⟨rfl,j,hj,rfl⟩
  and_intros
  refine⟨dx,_,h1,cX (by decide +kernel) (by decide +kernel),p,ns,rfl,hp,?_⟩
  have fin:j=bH ns k0→B ({ nx:=fun _ H'=>Q .cU H',rt:=Q }:Ends) [some (.ref p),some (.int (k0:Nat)),some (.int ((k0:Int)+1+(j:Int)))] H':=fun e=>by
   subst hB
   and_intros
   intro r XR
   refine⟨k0,(k0:Int)+1+(j:Int),ag,by omega,by omega,by omega,by omega,by omega,fun l yH=>?_⟩
   rw[show ((k0:Int)+1+(j:Int)-(k0:Int)).toNat=bH ns k0+1 by omega]
   exact k l _ (aq.none (aq.put XR) yH) ((aq.put XR).upd yH) ag
  have nd:∃ x,List.lookup (Str.ofString "nodes") [(Str.ofString "spot_marks",V.ref t1),(Str.ofString "nodes",V.ref t2)]=some x∧x=.ref t2:=⟨.ref t2,u7 (by decide +kernel),rfl⟩
  refine⟨_,rfl,fz (fun qt=>?_) fun WA=>fin (by omega)⟩
  have TU:k0+1+j<ns.length:=by omega
  obtain⟨n1,MK,t',Rn,JL⟩:=h4.get (List.getElem?_eq_getElem (by omega:k0+1+j<xs.length))
  have e1:qr xs ((k0:Int)+1+(j:Int))=some (.ref t'):=by
   rw[show (k0:Int)+1+(j:Int)=((k0+1+j:Nat):Int) by omega,←Rn]
   exact bT (List.getElem?_eq_getElem (by omega))
  refine⟨ad.cF,dx,_,h1,T.aU,T.gy,.ref t2,u7 (by decide +kernel),t2,rfl,xs,df.of h3,_,e1,t',rfl,_,df.of JL,_,rfl,ad.cF,dx,_,h1,T.aU,T.gy,.ref t2,u7 (by decide +kernel),t2,rfl,xs,df.of h3,_,e0,t0,rfl,_,df.of EL,_,rfl,n1.2,rfl,ns[k0].2,rfl,fz (fun O1=>?_) fun O1=>fin ?_⟩
  ·have Zh:j<bH ns k0:=by
    rcases Nat.lt_or_ge j (bH ns k0) with h | h
    ·exact h
    ·have:j=bH ns k0:=by omega
     rw[this] at MK
     exact absurd (by rw[eD];exact O1) (Bd MK)
   refine⟨fun σ' H1=>H1=H'∧bx σ' [some (.ref p),some (.int (k0:Nat)),some (.int ((k0:Int)+1+((j+1:Nat):Int)))],fun σ' H1 ⟨e2,e3⟩=>⟨m-1,by omega,e2,j+1,by omega,e3⟩,?_⟩
   and_intros
   rw[show (k0:Int)+1+(j:Int)+1=(k0:Int)+1+((j+1:Nat):Int) by omega]
   exact bx.rfl
  ·rcases Nat.lt_or_ge j (bH ns k0) with h | h
   ·obtain⟨n2,XS,RU⟩:=CS h
    rw[MK] at XS
    cases XS
    rw[eD] at RU
    exact absurd RU O1
   ·omega
theorem zw {f:Addr}{fd:FuncData} (F:qL K "is_under" "Forest.is_under" nR f fd) (T:Txt K mg ad) {cM:Addr}{eP:FuncData} (gu:av P w K mg base bw 2 cM eP ["self","mark"] (jA ad)) {fI:Addr}{gT:FuncData} (jE:av P w K mg base bw 1 fI gT ["marks","places"] (qc K)) {cZ:Addr}{fk:FuncData} (hU:av P w K mg base bw 2 cZ fk ["self","place"] (kj ad)) (d5:Def K mg "marks_at" kE ["marks","places"] fI gT) (gv:Binds K eP ["self","mark"] []) (hV:Binds K fk ["self","place"] []) (fJ:Meth K ad.cF "standing" cM) (gw:Meth K ad.cF "hanging" cZ):av P w K mg base bw 3 f fd ["self","one","other"] (jB ad):=by
 refine F.ok rF (fun vs H Q E h=>?_) (fun gJ A outer s H vs Q E hr h=>?_)
 ·obtain⟨p,ns,one,other,rfl,_⟩:=h
  rfl
 ·obtain⟨p,ns,one,other,rfl,ho,k⟩:=h
  refine⟨_,(@ah _ _ _ _ _ (fZ PassesOwn.never rfl (dU (au (pv 0) T.aU fJ gu (hr.mono (by decide)) gv .nil aA (ae (pv 1) af))) (aZ (i:=3) rF.nd rfl (Or.inl rfl))
   (@ai _ _ _ (cE (aL LY (pv 2) (aT jE (hr.mono (by decide)) rfl d5.mg d5.F.kp d5.b .nil aA (ae (bt (pv 0) rfl) (ae (ky sR (au (pv 0) T.aU gw hU (hr.mono (by decide)) hV .nil aA (ae (pv 3) af)) (mH aj) pI) af))) rfl)
   (@ai _ _ _ (aK jP))
   aV)))
   (@ai _ _ _ (aK jP))),?_⟩
  obtain⟨hp,hd,hl⟩:=id ho
  obtain⟨dx,t1,t2,xs,h1,h2,h3,h4⟩:=id hp
  have hlen:=h4.length
  refine ak fun B hB=>?_
  refine (show tN _ _ _ _ _ _ from ?_)
  unfold tN
  refine mw (fun J H1=>∃ l,aq H H1∧H1 l=some (.lst ((idxs (kC one) 0 (ip ns)).map V.int))∧J=G7 K l) (fun G' hG=>?_) ?_
  ·and_intros
   exact⟨dx,_,h1,cX (by decide +kernel) (by decide +kernel),p,ns,one,rfl,ho,fun l H1 _ s1 h=>⟨l,rfl,⟨_,bA.of h⟩,hG _ _ ⟨l,s1,h,rfl⟩⟩⟩
  rintro _ H1 ⟨l,s1,UX,rfl⟩
  refine jQ (xs:=(idxs (kC one) 0 (ip ns)).map V.int) (fun i σ H'=>aq H1 H'∧(((idxs (kC one) 0 (ip ns)).take i).any fun p=>SF (.str other) (((sZ ns p.toNat).drop 1).map fun q=>(ip ns).getD q.toNat .cU))=false∧∃ o3:Option V,bx σ [some (.ref p),some (.str one),some (.str other),o3]) ⟨aq.refl _,rfl,none,bx.rfl⟩ (fun i σ H' _ ⟨e,_⟩=>bA.of (e _ _ UX)) ?_ ?_
  ·rintro i x σ H' hx ⟨s2,hf,o3,rfl⟩
   obtain⟨q,hq,rfl⟩:=Option.map_eq_some_iff.mp (List.getElem?_map .. ▸ hx)
   obtain⟨n,y,eq1,WC,_⟩:=Av.mp (List.mem_of_getElem? hq)
   rw[Nat.zero_add] at eq1
   subst eq1
   have hn:n<ns.length:=by
    have:=(List.getElem?_eq_some_iff.mp WC).1
    unfold ip at this
    rwa [List.length_map] at this
   have tl:=yA ns n
   have Bh:=s1.trans s2
   and_intros
   refine⟨ad.cF,dx,_,Bh _ _ h1,T.aU,T.gf,.ref t1,rfl,dx,_,Bh _ _ h1,cX (by decide +kernel) (by decide +kernel),p,ns,n,rfl,ho.same Bh,hn,fun l3 H3 _ s3 WD=>⟨l3,rfl,_,bA.of WD,fun p4 ML=>?_⟩⟩
   rw[Dk (n:=1) (i:=1) rfl,←List.map_drop]
   refine⟨t1,p4,ip ns,(sZ ns n).drop 1,rfl,df.same ((Bh.trans s3).upd ML) h2.sq,ag,fun q hq=>?_,by rw[List.length_drop,NS];omega,fun l5 MB=>?_⟩
   ·obtain⟨i,rfl,_,h⟩:=Ii hn (List.mem_of_mem_drop hq)
    unfold ip
    rw[List.length_map]
    omega
   ·and_intros
    refine⟨l5,_,rfl,.inl (bA.of ag),rfl,?_,_,rfl,?_⟩
    ·rw[List.all_map,List.all_eq_true]
     intro q hq
     obtain⟨i,rfl,_,h⟩:=Ii hn (List.mem_of_mem_drop hq)
     show rl ((ip ns).getD _ .cU)=true
     rw[Int.toNat_natCast,zk h]
     rfl
    ·refine fz (fun ht=>?_) fun ht=>⟨((s2.trans s3).upd ML).upd MB,tY hq hf (Bool.eq_false_iff.mpr (by rw[if_neg Bool.false_ne_true] at ht;exact ht)),_,bx.rfl⟩
     rw[if_neg Bool.false_ne_true] at ht
     have e:zm one other ns=true:=List.any_eq_true.mpr ⟨_,List.mem_of_getElem? hq,ht⟩
     refine (show Q (.bl true) _ from ?_)
     rw[←e]
     exact k _ (((Bh.trans s3).upd ML).upd MB)
  ·rintro σ H' ⟨s2,hf,o3,rfl⟩
   dsimp only
   subst hB
   and_intros
   rw[List.length_map,List.take_length] at hf
   have e:zm one other ns=false:=hf
   have:=k _ (s1.trans s2)
   rw[e] at this
   exact this
theorem AH {f:Addr}{fd:FuncData} (F:qL K "is_under" "Table.is_under" lh f fd) (T:Txt K mg ad) {eF:Addr}{gB:FuncData} (jj:av P w K mg base bw 1 eF gB ["marks","one","other"] (mO K)) (dI:Def K mg "stands_ahead" jb ["marks","one","other"] eF gB):av P w K mg base bw 2 f fd ["self","one","other"] (kl ad):=by
 refine F.ok sW (fun vs H Q E h=>?_) (fun gJ A outer s H vs Q E hr h=>?_)
 ·obtain⟨p,ls,w,one,other,rfl,_⟩:=h
  rfl
 ·obtain⟨p,ls,w,one,other,rfl,⟨dx,t1,t2,ts,h1,h2,h3,h4,h5,h6,h7⟩,k⟩:=h
  refine⟨_,(@ah _ _ _ _ _ (fZ PassesOwn.never rfl (jV rfl T.range (ae (bt (pv 0) rfl) af)) (aZ (i:=3) sW.nd rfl (Or.inr rfl))
   (@ai _ _ _ (cE (mS (aT jj (hr.mono (by decide)) rfl dI.mg dI.F.kp dI.b .nil aA (ae (fP (own:=["line"]) (cap:=["column"]) (ix:=[3]) rfl (show br ["self","one","other","column"] (ar lh) _ ["line"] ["column"] [3] from ⟨rfl,by decide +kernel,by decide +kernel,by decide +kernel,by decide +kernel,by decide +kernel,by decide +kernel,rfl,by decide +kernel⟩) (wH (bt (pv 0) rfl)) (fun C s₀ H₀ ex pn=>⟨aZ (i:=0) (show (["line","column"]:List Str).Nodup by decide +kernel) rfl (Or.inl rfl),fh,(bo (show GX _ (rIxT K) from cT) (pv 0) (pv 1) (fun _ _=>rfl))⟩)) (ae (pv 1) (ae (pv 2) af)))))
   (@ai _ _ _ (aK jP))
   aV)))
   (@ai _ _ _ (aK jP))),?_⟩
  have hlen:=h4.length
  refine ak fun B hB=>?_
  refine (show tN _ _ _ _ _ _ from ?_)
  unfold tN
  have split:∀ {wi:TI}{σ:St}{H:Hp}{G:It→Hp→Prop} (J0:It),(∀ G':It→Hp→Prop,G' J0 H→wi σ H G')→G J0 H→wi σ H G:=fun _ h g=>h _ g
  refine split (Fz 0 w) (fun G' Zi=>?_) ?_
  ·and_intros
   exact⟨ad.Table,dx,_,h1,T.bz,T.jf,.int w,Ll (by decide +kernel) (by decide +kernel),w,rfl,by omega,by omega,Zi⟩
  refine i8 (n:=w) (fun i σ H'=>aq H H'∧((List.range i).any fun c=>cW one other (ls.map fun l=>l.getD c .cU))=false∧∃ o3:Option V,bx σ [some (.ref p),some (.str one),some (.str other),o3]) ⟨aq.refl _,rfl,none,bx.rfl⟩ ?_ ?_
  ·rintro i σ H' hi ⟨s1,hf,o3,rfl⟩
   and_intros
   refine uJ (K:=K) (a:=t2) (xs:=ts) (H1:=H') (fun R rr=>⟨_,rfl,p,ad.Table,dx,_,.ref t2,rfl,s1 _ _ h1,T.bz,T.jg,wV (by decide +kernel),t2,rfl,⟨_,df.of (s1 _ _ h3)⟩,rr⟩) (fun j ys H2=>H2=H'∧ys=(ls.take j).map fun l=>l.getD i .cU) ⟨rfl,rfl⟩ (fun i ys H' _ ⟨e,_⟩=>e▸df.of (s1 _ _ h3)) ?_ ?_
   ·rintro j x ys H2 R hx ⟨rfl,rfl⟩ hR
    obtain⟨li,el,tt,ex,ht⟩:=h4.get hx
    subst ex
    have hj:=(List.getElem?_eq_some_iff.mp hx).1
    have PJ:=h7 li (List.mem_of_getElem? el)
    have Q5:i<li.length:=by have:=PJ.1;omega
    have e:(ls.take (j+1)).map (fun l=>l.getD i .cU)=(ls.take j).map (fun l=>l.getD i .cU)++[li.getD i .cU]:=by
     rw[List.take_add_one,el,List.map_append]
     rfl
    and_intros
    refine F8 ?_
    refine⟨li,df.of (s1 _ _ ht),li.getD i .cU,?_,?_,hR _ _ ⟨rfl,e.symm⟩⟩
    ·rw[Int.zero_add,bT (List.getElem?_eq_getElem Q5),List.getD_eq_getElem?_getD,List.getElem?_eq_getElem Q5]
     rfl
    ·rw[List.length_map,List.length_take]
     exact ay (by omega)
   ·rintro ys H2 ⟨rfl,rfl⟩
    rw[hlen,List.take_length]
    refine⟨by rw[List.length_map];exact Nat.le_of_lt (ay (by omega)),fun D hD=>⟨D,_,one,other,rfl,.inl (bA.of ag),?_,_,rfl,fz (fun ht=>?_) fun ht=>⟨s1.upd hD,?_,_,bx.rfl⟩⟩⟩
    ·rw[List.all_map,List.all_eq_true]
     intro l hl
     have h:=h7 l hl
     have Q5:i<l.length:=by have:=h.1;omega
     show markV (l.getD i .cU)=true
     rw[List.getD_eq_getElem?_getD,List.getElem?_eq_getElem Q5]
     exact List.all_eq_true.mp h.2 _ (List.getElem_mem Q5)
    ·have e:zo one other ls w=true:=List.any_eq_true.mpr ⟨i,List.mem_range.mpr hi,ht⟩
     refine (show Q (.bl true) _ from ?_)
     rw[←e]
     exact k _ (s1.upd hD)
    ·rw[List.range_succ,List.any_append,hf]
     have Zj:=Bool.eq_false_iff.mpr ht
     rw[List.any_cons,Zj]
     rfl
  ·rintro σ H' ⟨s1,hf,o3,rfl⟩
   dsimp only
   subst hB
   and_intros
   have e:zo one other ls w=false:=hf
   have:=k _ s1
   rw[e] at this
   exact this
theorem DH {f:Addr}{fd:FuncData} (F:qL K "holds" "Under.holds" tQ f fd) (T:Txt K mg ad) {hZ:Addr}{mQ:FuncData} (rO:av P w K mg base bw 1 hZ mQ ["self","one","other"] mP) {fm:Addr}{jF:FuncData} (om:av P w K mg base bw 3 fm jF ["self","one","other"] (jB ad)) {fK:Addr}{ko:FuncData} (pf:av P w K mg base bw 2 fK ko ["self","one","other"] (kl ad)) (rP:Binds K mQ ["self","one","other"] []) (ou:Binds K jF ["self","one","other"] []) (ph:Binds K ko ["self","one","other"] []) (qB:Meth K ad.Row "is_under" hZ) (mY:Meth K ad.cF "is_under" fm) (ow:Meth K ad.Table "is_under" fK):av P w K mg base bw 4 f fd ["self","thing"] (gg ad):=by
 refine F.ok Dr (fun vs H Q E h=>?_) (fun gJ A outer s H vs Q E hr h=>?_)
 ·obtain⟨p,q,d,a,b,rfl,_⟩:=h
  rfl
 ·obtain⟨p,q,d,a,b,rfl,h,ok,ht,k⟩:=h
  unfold eB at h
  obtain⟨a',dx,e,h⟩:=h
  cases e
  rw[show tZ ad "under" = ad.Under from by unfold tZ;rw[if_neg (by decide +kernel),if_pos rfl]] at h
  unfold ma at ok
  have k':∀ H',aq H H'→Q (.bl (EI d "under" a b)) H':=fun H' s'=>by have:=k H' s';unfold cg at this;exact this
  rw[show EI d "under" a b=Gb d a b from by unfold EI;rw[if_neg (by decide +kernel),if_pos rfl]] at k'
  refine⟨_,(@ai _ _ _ (aK (ao (ao (au (pv 1) T.fF qB rO (hr.mono (by decide)) rP .nil aA (ae (bt (pv 0) rfl) (ae (bt (pv 0) rfl) af))) (au (pv 1) T.aU mY om (hr.mono (by decide)) ou .nil aA (ae (bt (pv 0) rfl) (ae (bt (pv 0) rfl) af)))) (au (pv 1) T.bz ow pf (hr.mono (by decide)) ph .nil aA (ae (bt (pv 0) rfl) (ae (bt (pv 0) rfl) af)))))),?_⟩
  and_intros
  have go:∀ {R:V→V→Prop},R (.str a) (.str b)→∃ x Pe G1,H p=some (HO.ins x Pe G1)∧yF K x∧dg K x (Str.ofString "one")∧∃ x,List.lookup (Str.ofString "one") G1=some x∧∃ JK Rm N1,H p=some (HO.ins JK Rm N1)∧yF K JK∧dg K JK (Str.ofString "other")∧∃ N2,List.lookup (Str.ofString "other") N1=some N2∧R x N2 :=
   fun r=>⟨ad.Under,dx,_,h,T.kK,T.As,.str a,by rw[List.lookup_cons,beq_self_eq_true],ad.Under,dx,_,h,T.kK,T.xo,.str b,UW (by decide +kernel),r⟩
  exact Az ht (by decide +kernel) (by decide +kernel) (by decide +kernel) (by decide +kernel) (fun xs ed x y e1 e2=>⟨x,y,e1,e2,go (R:=fun u v=>mP [.ref q,u,v] H Q E0) ⟨_,_,_,rfl,by subst ed;exact k' H (aq.refl _)⟩⟩) (fun ns ed x y e1 e2=>⟨x,y,e1,e2,go (R:=fun u v=>jB ad [.ref q,u,v] H Q E0) ⟨q,ns,a,b,rfl,by subst ed;exact ht,by subst ed;exact k'⟩⟩) (fun ls w ed x y e1 e2=>⟨x,y,e1,e2,go (R:=fun u v=>kl ad [.ref q,u,v] H Q E0) ⟨q,ls,w,a,b,rfl,by subst ed;exact ht,by subst ed;exact k'⟩⟩)
theorem DI {f:Addr}{fd:FuncData} (F:qL K "grows" "Under.grows" tR f fd) (T:Txt K mg ad):av P w K mg base bw 1 f fd ["self"] (kO ad):=by
 refine F.ok Ds (fun vs H Q E h=>?_) (fun gJ A outer s H vs Q E hr h=>?_)
 ·obtain⟨p,a,b,rfl,_⟩:=h
  rfl
 ·obtain⟨p,a,b,rfl,h,ok,k⟩:=h
  have k':=k H (aq.refl _)
  unfold fG at k'
  rw[show decide (¬ (("under" : Str) = "beside"))=true by decide +kernel] at k'
  refine⟨_,(@ai _ _ _ (aK jP)),?_⟩
  and_intros
  exact k'
theorem wC {f:Addr}{fd:FuncData} (D:Def K mg "stands_right_ahead" dH ["marks","one","other"] f fd) (T:Txt K mg ad):av P w K mg base bw 1 f fd ["marks","one","other"] ik:=by
 refine D.F.ok wA (fun vs H Q E h=>?_) (fun gJ A outer s H vs Q E hr h=>?_)
 ·obtain⟨t,xs,one,other,rfl,_⟩:=h
  rfl
 ·obtain⟨t,xs,one,other,rfl,hq,hm,hl,k⟩:=h
  refine⟨_,(@ai _ _ _ (aK (aS (Hn rfl) rfl T.any (by decide +kernel) (ae (fP (own:=["first","second"]) (cap:=["one","other"]) (ix:=[1,2]) rfl (show br ["marks","one","other"] (ar dH) _ ["first","second"] ["one","other"] [1,2] from ⟨rfl,by decide +kernel,by decide +kernel,by decide +kernel,by decide +kernel,by decide +kernel,by decide +kernel,rfl,by decide +kernel⟩) (O7 rfl T.zip (ae (pv 0) (ae (ky FZ (pv 0) (mH aj) pI) af))) (fun C s₀ H₀ ex pn=>⟨(show PG _ _ (gTup K 2 (gCons (gName 0) (gCons (gName 1) gNil))) from Jx (i:=0) (j:=1) rfl (show (["first","second","one","other"]:List Str).Nodup by decide +kernel) rfl rfl (Or.inl rfl) (Or.inl rfl)),fh,(CY (kc dS (pv 0) (pv 2) (aQ _)) (CW (kc dS (pv 1) (pv 3) (aQ _))))⟩)) af)))),?_⟩
  and_intros
  refine (show iZipT _ _ _ _ from ?_)
  refine mw (fun J H1=>∃ b ys,aq H H1∧Rd H1 b (.tup ys)∧ys=xs.drop 1∧J=Mq t b) (fun G' hG=>?_) ?_
  ·and_intros
   refine⟨xs,.inl hq,fun hw=>⟨⟨_,hq⟩,⟨_,hq⟩,hG _ _ ⟨t,xs,aq.refl _,hq,?_,rfl⟩⟩,fun hw p hp=>⟨⟨_,F9 (aq.put hp) hq⟩,⟨_,.inl ag⟩,hG _ _ ⟨p,_,aq.put hp,.inl ag,?_,rfl⟩⟩⟩
   ·have:min 1 xs.length=0:=hw.1
    have:xs=[]:=List.length_eq_zero_iff.mp (by omega)
    rw[this]
    rfl
   ·exact Dk rfl
  ·rintro _ H1 ⟨b,ys,s1,hb,rfl,rfl⟩
   have Ro:=F9 s1 hq
   refine Mt (K:=K) (xs:=xs) (ys:=xs.drop 1) (Q:=fun x H1=>∃ p,x=V.ref p∧∃ x,bA K H1 p (List.map V.bl x)∧Q (V.bl (x.any id)) H1) (fun i zs H'=>aq H1 H'∧zs=(((xs.zip (xs.drop 1)).take i).map fun p=>kC one p.1&&kC other p.2).map V.bl) ⟨aq.refl _,rfl⟩ (fun i zs H' ⟨e,_⟩=>⟨F9 e Ro,F9 e hb⟩) ?_ ?_
   ·rintro i x y zs H' T' R hx hy ⟨s2,rfl⟩ hT hR
    obtain⟨z1,rfl⟩:=uM (List.all_eq_true.mp hm x (List.mem_of_getElem? hx))
    obtain⟨z2,rfl⟩:=uM (List.all_eq_true.mp hm y (List.mem_of_mem_drop (List.mem_of_getElem? hy)))
    have l1:((((xs.zip (xs.drop 1)).take i).map fun p=>kC one p.1&&kC other p.2).map V.bl).length<sizeLine:=by
     have:=(List.getElem?_eq_some_iff.mp hx).1
     rw[List.length_map,List.length_map,List.length_take,List.length_zip]
     exact ay (by omega)
    have e2:(((xs.zip (xs.drop 1)).take (i+1)).map fun p=>kC one p.1&&kC other p.2).map V.bl=(((xs.zip (xs.drop 1)).take i).map fun p=>kC one p.1&&kC other p.2).map V.bl++[V.bl (decide (z1=one)&&decide (z2=other))]:=by
     rw[List.take_add_one,(List.getElem?_zip_eq_some (z:=(V.str z1,V.str z2))).mpr ⟨hx,hy⟩,←vo one,←vo other,List.map_append,List.map_append]
     rfl
    and_intros
    refine F8 ?_
    by_cases h1:z1=one
    ·rw[if_pos h1]
     rw[decide_eq_true h1,Bool.true_and] at e2
     exact⟨l1,hR _ _ ⟨s2.upd hT,e2.symm⟩⟩
    ·rw[if_neg h1]
     rw[decide_eq_false h1,Bool.false_and] at e2
     exact⟨l1,hR _ _ ⟨s2.upd hT,e2.symm⟩⟩
   ·rintro zs H' ⟨s2,rfl⟩
    and_intros
    rw[List.take_of_length_le (by rw[List.length_zip];exact Nat.le_refl _)]
    refine⟨by rw[List.length_map,List.length_map,List.length_zip];exact Nat.le_of_lt (ay (by omega)),fun D hD=>⟨_,bA.of ag,?_⟩⟩
    rw[List.any_map]
    exact k _ ((s1.trans s2).upd hD)
theorem Bi {f:Addr}{fd:FuncData} (F:qL K "is_beside" "Row.is_beside" qz f fd) (T:Txt K mg ad) {bV:Addr}{dh:FuncData} (eR:av P w K mg base bw 1 bV dh ["marks","one","other"] ik) (bG:Def K mg "stands_right_ahead" dH ["marks","one","other"] bV dh):av P w K mg base bw 2 f fd ["self","one","other"] (lE ad):=by
 refine F.ok Bc (fun vs H Q E h=>?_) (fun gJ A outer s H vs Q E hr h=>?_)
 ·obtain⟨p,xs,one,other,rfl,_⟩:=h
  rfl
 ·obtain⟨p,xs,one,other,rfl,⟨dx,t,h1,h2,h3,h4⟩,k⟩:=h
  refine⟨_,(@ai _ _ _ (aK (aT eR (hr.mono (by decide)) rfl bG.mg bG.F.kp bG.b .nil aA (ae (bt (pv 0) rfl) (ae (pv 1) (ae (pv 2) af)))))),?_⟩
  and_intros
  exact⟨ad.Row,dx,_,h1,T.fF,T.gp,.ref t,rfl,t,xs,one,other,rfl,(let ⟨o,e,_⟩:=h2;.inr ⟨o,e⟩),h3,by omega,k⟩
theorem yI {f:Addr}{fd:FuncData} (F:qL K "is_beside" "Forest.is_beside" mV f fd) (T:Txt K mg ad) {cM:Addr}{eP:FuncData} (gu:av P w K mg base bw 2 cM eP ["self","mark"] (jA ad)) {cZ:Addr}{fk:FuncData} (hU:av P w K mg base bw 2 cZ fk ["self","place"] (kj ad)) {cY:Addr}{eG:FuncData} (fQ:av P w K mg base bw 1 cY eG ["self"] (Au ad)) (gv:Binds K eP ["self","mark"] []) (hV:Binds K fk ["self","place"] []) (fR:Binds K eG ["self"] []) (fJ:Meth K ad.cF "standing" cM) (gw:Meth K ad.cF "hanging" cZ) (fj:Meth K ad.cF "many" cY):av P w K mg base bw 3 f fd ["self","one","other"] (i6 ad):=by
 refine F.ok lY (fun vs H Q E h=>?_) (fun gJ A outer s H vs Q E hr h=>?_)
 ·obtain⟨p,ns,one,other,rfl,_⟩:=h
  rfl
 ·obtain⟨p,ns,one,other,rfl,ho,Zk,k⟩:=h
  have hu:=hr.units
  refine⟨_,(@ah _ _ _ _ _ (fZ PassesOwn.never rfl (dU (au (pv 0) T.aU fJ gu (hr.mono (by decide)) gv .nil aA (ae (pv 1) af))) (aZ (i:=3) lY.nd rfl (Or.inl rfl))
   (@ah _ _ _ _ _ (aP (i:=4) lY.nd rfl (Or.inl rfl) (aI dF (bo cx (au (pv 0) T.aU gw hU (hr.mono (by decide)) hV .nil aA (ae (pv 3) af)) (Ad uX aj) (fun _ _=>rfl)) aj))
   (@ai _ _ _ (cE (PW.pt (pw_and (aL wK (pv 4) (eo (pv 0) T.aU fj fQ (hr.mono (by decide)) fR .nil aA) (aQ _)) (pw_and1 (aL (Nn hu) (bo cT (bt (pv 0) rfl) (pv 4) (fun _ _=>rfl)) (i9 (ae (pv 2) (ae (bo cT (bo cT (bt (pv 0) rfl) (pv 3) (fun _ _=>rfl)) aj (fun _ _=>rfl)) af))) (aQ _)))))
   (@ai _ _ _ (aK jP))
   aV))))
   (@ai _ _ _ (aK jP))),?_⟩
  obtain⟨hp,hd,hl⟩:=id ho
  obtain⟨dx,t1,t2,xs,h1,h2,h3,h4⟩:=id hp
  have hlen:=h4.length
  refine ak fun B hB=>?_
  refine (show tN _ _ _ _ _ _ from ?_)
  unfold tN
  refine mw (fun J H1=>∃ l,aq H H1∧H1 l=some (.lst ((idxs (kC one) 0 (ip ns)).map V.int))∧J=G7 K l) (fun G' hG=>?_) ?_
  ·and_intros
   exact⟨dx,_,h1,cX (by decide +kernel) (by decide +kernel),p,ns,one,rfl,ho,fun l H1 _ s1 h=>⟨l,rfl,⟨_,bA.of h⟩,hG _ _ ⟨l,s1,h,rfl⟩⟩⟩
  rintro _ H1 ⟨l,s1,UX,rfl⟩
  refine jQ (xs:=(idxs (kC one) 0 (ip ns)).map V.int) (fun i σ H'=>aq H1 H'∧(((idxs (kC one) 0 (ip ns)).take i).any fun p=>decide (p.toNat+bH ns p.toNat+1<ns.length)&&decide (ns.getD (p.toNat+bH ns p.toNat+1) ("",0)=(other,(ns.getD p.toNat ("",0)).2)))=false∧∃ o3 o4:Option V,bx σ [some (.ref p),some (.str one),some (.str other),o3,o4]) ⟨aq.refl _,rfl,none,none,bx.rfl⟩ (fun i σ H' _ ⟨e,_⟩=>bA.of (e _ _ UX)) ?_ ?_
  ·rintro i x σ H' hx ⟨s2,hf,o3,o4,rfl⟩
   obtain⟨q,hq,rfl⟩:=Option.map_eq_some_iff.mp (List.getElem?_map .. ▸ hx)
   obtain⟨n,y,eq1,WC,_⟩:=Av.mp (List.mem_of_getElem? hq)
   rw[Nat.zero_add] at eq1
   subst eq1
   have hn:n<ns.length:=by
    have:=(List.getElem?_eq_some_iff.mp WC).1
    unfold ip at this
    rwa [List.length_map] at this
   have tl:=yA ns n
   have Bh:=s1.trans s2
   refine ak fun B2 yJ=>?_
   and_intros
   refine⟨dx,_,Bh _ _ h1,cX (by decide +kernel) (by decide +kernel),p,ns,n,rfl,ho.same Bh,hn,fun l3 H3 _ s3 WD=>⟨l3,rfl,_,bA.of WD,_,Mv ns n,_,rfl,?_⟩⟩
   have LA:=Bh.trans s3
   subst yJ
   and_intros
   refine⟨dx,_,LA _ _ h1,cX (by decide +kernel) (by decide +kernel),p,ns,rfl,hp.same LA,_,rfl,fz (fun qt=>?_) fun WA=>?_⟩
   ·have TU:n+bH ns n+1<ns.length:=by omega
    obtain⟨n1,MK,t',Rn,JL⟩:=h4.get (List.getElem?_eq_getElem (by omega:n+bH ns n+1<xs.length))
    obtain⟨n0,N3,t0,Cu,EL⟩:=h4.get (List.getElem?_eq_getElem (by omega:n<xs.length))
    have e1:qr xs ((n:Int)+(bH ns n:Int)+1)=some (.ref t'):=by
     rw[show (n:Int)+(bH ns n:Int)+1=((n+bH ns n+1:Nat):Int) by omega,←Rn]
     exact bT (List.getElem?_eq_getElem (by omega))
    have e0:qr xs (n:Int)=some (.ref t0):=by rw[←Cu];exact bT (List.getElem?_eq_getElem (by omega))
    refine⟨ad.cF,dx,_,LA _ _ h1,T.aU,T.gy,.ref t2,u7 (by decide +kernel),t2,rfl,xs,df.of (LA _ _ h3),_,e1,ad.cF,dx,_,LA _ _ h1,T.aU,T.gy,.ref t2,u7 (by decide +kernel),t2,rfl,xs,df.of (LA _ _ h3),_,e0,t0,rfl,_,df.of (LA _ _ EL),_,rfl,?_⟩
    have f:(fun p:Int=>decide (p.toNat+bH ns p.toNat+1<ns.length)&&decide (ns.getD (p.toNat+bH ns p.toNat+1) ("",0)=(other,(ns.getD p.toNat ("",0)).2))) (n:Int)=decide (n1.1=other∧n1.2=n0.2):=by
     show (decide ((n:Int).toNat+bH ns (n:Int).toNat+1<ns.length)&&decide (ns.getD ((n:Int).toNat+bH ns (n:Int).toNat+1) ("",0)=(other,(ns.getD (n:Int).toNat ("",0)).2)))=_
     rw[Int.toNat_natCast,decide_eq_true TU,Bool.true_and,List.getD_eq_getElem?_getD,List.getD_eq_getElem?_getD,MK,N3]
     show decide (n1=(other,n0.2))=_
     by_cases h1:n1.1=other<;>by_cases h2:n1.2=n0.2<;>simp [h1,h2,Prod.ext_iff]
    refine⟨by decide,fun p4 ML=>⟨_,_,.tup (df.of ((LA.upd ML) _ _ JL)) (.cons (.str _) (.cons (.int _) .nil)),.tup (df.of ag) (.cons (.str _) (.cons (.int _) .nil)),Cb (y6 (nq hd n1 (List.mem_of_getElem? MK)).1) _,Cb Zk _,_,rfl,?_⟩⟩
    rw[if_neg Bool.false_ne_true,NT]
    refine fz (fun ht=>?_) fun ht=>⟨(s2.trans s3).upd ML,tY hq hf (f.trans (Bool.eq_false_iff.mpr ht)),_,_,bx.rfl⟩
    have e:CT one other ns=true:=List.any_eq_true.mpr ⟨_,List.mem_of_getElem? hq,f.trans ht⟩
    refine (show Q (.bl true) _ from ?_)
    rw[←e]
    exact k _ (LA.upd ML)
   ·refine⟨s2.trans s3,tY hq hf ?_,_,_,bx.rfl⟩
    show (decide _&&_)=false
    rw[Int.toNat_natCast,decide_eq_false (by omega)]
    rfl
  ·rintro σ H' ⟨s2,hf,o3,o4,rfl⟩
   dsimp only
   subst hB
   and_intros
   rw[List.length_map,List.take_length] at hf
   have e:CT one other ns=false:=hf
   have:=k _ (s1.trans s2)
   rw[e] at this
   exact this
theorem zx {f:Addr}{fd:FuncData} (F:qL K "is_beside" "Table.is_beside" kh f fd) (T:Txt K mg ad) {bV:Addr}{dh:FuncData} (eR:av P w K mg base bw 1 bV dh ["marks","one","other"] ik) (bG:Def K mg "stands_right_ahead" dH ["marks","one","other"] bV dh):av P w K mg base bw 2 f fd ["self","one","other"] (jC ad):=by
 refine F.ok zj (fun vs H Q E h=>?_) (fun gJ A outer s H vs Q E hr h=>?_)
 ·obtain⟨p,ls,w,one,other,rfl,_⟩:=h
  rfl
 ·obtain⟨p,ls,w,one,other,rfl,⟨dx,t1,t2,ts,h1,h2,h3,h4,h5,h6,h7⟩,k⟩:=h
  refine⟨_,(@ai _ _ _ (aK (aS (Hn rfl) rfl T.any (by decide +kernel) (ae (fP (own:=["line"]) (cap:=["one","other"]) (ix:=[1,2]) rfl (show br ["self","one","other"] (ar kh) _ ["line"] ["one","other"] [1,2] from ⟨rfl,by decide +kernel,by decide +kernel,by decide +kernel,by decide +kernel,by decide +kernel,by decide +kernel,rfl,by decide +kernel⟩) (wH (bt (pv 0) rfl)) (fun C s₀ H₀ ex pn=>⟨aZ (i:=0) (show (["line","one","other"]:List Str).Nodup by decide +kernel) rfl (Or.inl rfl),fh,(aT eR (hr.mono (by decide)) rfl bG.mg bG.F.kp bG.b .nil aA (ae (pv 0) (ae (pv 1) (ae (pv 2) af))))⟩)) af)))),?_⟩
  have hlen:=h4.length
  and_intros
  refine uJ (K:=K) (a:=t2) (xs:=ts) (H1:=H) (fun R rr=>⟨_,rfl,p,ad.Table,dx,_,.ref t2,rfl,h1,T.bz,T.jg,wV (by decide +kernel),t2,rfl,⟨_,df.of h3⟩,rr⟩) (fun i ys H'=>aq H H'∧ys=((ls.take i).map (Aw one other)).map V.bl) ⟨aq.refl _,rfl⟩ (fun i ys H' _ ⟨e,_⟩=>df.of (e _ _ h3)) ?_ ?_
  ·rintro i x ys H' R hx ⟨s1,rfl⟩ hR
   obtain⟨li,el,tt,ex,ht⟩:=h4.get hx
   subst ex
   have hi:=(List.getElem?_eq_some_iff.mp hx).1
   have PJ:=h7 li (List.mem_of_getElem? el)
   have e:((ls.take (i+1)).map (Aw one other)).map V.bl=((ls.take i).map (Aw one other)).map V.bl++[V.bl (Aw one other li)]:=by
    rw[List.take_add_one,el,List.map_append,List.map_append]
    rfl
   and_intros
   refine F8 ?_
   refine⟨tt,li,one,other,rfl,.inl (s1 _ _ ht),PJ.2,by have:=PJ.1;omega,fun H2 s2=>⟨?_,hR _ _ ⟨s1.trans s2,e.symm⟩⟩⟩
   rw[List.length_map,List.length_map,List.length_take]
   exact ay (by omega)
  ·rintro ys H' ⟨s1,rfl⟩
   rw[hlen,List.take_length]
   and_intros
   refine⟨by rw[List.length_map,List.length_map];exact Nat.le_of_lt (ay (by omega)),fun D hD=>?_⟩
   refine⟨_,bA.of ag,?_⟩
   rw[List.any_map]
   exact k _ (s1.upd hD)
theorem CH {f:Addr}{fd:FuncData} (F:qL K "holds" "Beside.holds" rC f fd) (T:Txt K mg ad) {gC:Addr}{lF:FuncData} (qC:av P w K mg base bw 2 gC lF ["self","one","other"] (lE ad)) {eQ:Addr}{i7:FuncData} (mZ:av P w K mg base bw 3 eQ i7 ["self","one","other"] (i6 ad)) {fo:Addr}{jG:FuncData} (ox:av P w K mg base bw 2 fo jG ["self","one","other"] (jC ad)) (qD:Binds K lF ["self","one","other"] []) (m4:Binds K i7 ["self","one","other"] []) (oy:Binds K jG ["self","one","other"] []) (pj:Meth K ad.Row "is_beside" gC) (l6:Meth K ad.cF "is_beside" eQ) (m5:Meth K ad.Table "is_beside" fo):av P w K mg base bw 4 f fd ["self","thing"] (fE ad):=by
 refine F.ok Cy (fun vs H Q E h=>?_) (fun gJ A outer s H vs Q E hr h=>?_)
 ·obtain⟨p,q,d,a,b,rfl,_⟩:=h
  rfl
 ·obtain⟨p,q,d,a,b,rfl,h,ok,ht,k⟩:=h
  unfold eB at h
  obtain⟨a',dx,e,h⟩:=h
  cases e
  rw[show tZ ad "beside" = ad.iQ from by unfold tZ;rw[if_neg (by decide +kernel),if_neg (by decide +kernel)]] at h
  unfold ma at ok
  have k':∀ H',aq H H'→Q (.bl (EI d "beside" a b)) H':=fun H' s'=>by have:=k H' s';unfold cg at this;exact this
  rw[show EI d "beside" a b=Lw d a b from by unfold EI;rw[if_neg (by decide +kernel),if_neg (by decide +kernel)]] at k'
  refine⟨_,(@ai _ _ _ (aK (ao (ao (au (pv 1) T.fF pj qC (hr.mono (by decide)) qD .nil aA (ae (bt (pv 0) rfl) (ae (bt (pv 0) rfl) af))) (au (pv 1) T.aU l6 mZ (hr.mono (by decide)) m4 .nil aA (ae (bt (pv 0) rfl) (ae (bt (pv 0) rfl) af)))) (au (pv 1) T.bz m5 ox (hr.mono (by decide)) oy .nil aA (ae (bt (pv 0) rfl) (ae (bt (pv 0) rfl) af)))))),?_⟩
  and_intros
  have go:∀ {R:V→V→Prop},R (.str a) (.str b)→∃ x Pe G1,H p=some (HO.ins x Pe G1)∧yF K x∧dg K x (Str.ofString "one")∧∃ x,List.lookup (Str.ofString "one") G1=some x∧∃ JK Rm N1,H p=some (HO.ins JK Rm N1)∧yF K JK∧dg K JK (Str.ofString "other")∧∃ N2,List.lookup (Str.ofString "other") N1=some N2∧R x N2 :=
   fun r=>⟨ad.iQ,dx,_,h,T.je,T.yP,.str a,by rw[List.lookup_cons,beq_self_eq_true],ad.iQ,dx,_,h,T.je,T.wo,.str b,UW (by decide +kernel),r⟩
  exact Az ht (by decide +kernel) (by decide +kernel) (by decide +kernel) (by decide +kernel) (fun xs ed x y e1 e2=>⟨x,y,e1,e2,go (R:=fun u v=>lE ad [.ref q,u,v] H Q E0) ⟨q,xs,a,b,rfl,by subst ed;exact ht,by subst ed;exact k'⟩⟩) (fun ns ed x y e1 e2=>⟨x,y,e1,e2,go (R:=fun u v=>i6 ad [.ref q,u,v] H Q E0) ⟨q,ns,a,b,rfl,by subst ed;exact ht,y6 ok.2.2,by subst ed;exact k'⟩⟩) (fun ls w ed x y e1 e2=>⟨x,y,e1,e2,go (R:=fun u v=>jC ad [.ref q,u,v] H Q E0) ⟨q,ls,w,a,b,rfl,by subst ed;exact ht,by subst ed;exact k'⟩⟩)
theorem CI {f:Addr}{fd:FuncData} (F:qL K "grows" "Beside.grows" rD f fd) (T:Txt K mg ad):av P w K mg base bw 1 f fd ["self"] (jT ad):=by
 refine F.ok Cz (fun vs H Q E h=>?_) (fun gJ A outer s H vs Q E hr h=>?_)
 ·obtain⟨p,a,b,rfl,_⟩:=h
  rfl
 ·obtain⟨p,a,b,rfl,h,ok,k⟩:=h
  have k':=k H (aq.refl _)
  unfold fG at k'
  rw[show decide (¬ (("beside" : Str) = "beside"))=false by decide +kernel] at k'
  refine⟨_,(@ai _ _ _ (aK jP)),?_⟩
  and_intros
  exact k'
theorem EM {f:Addr}{fd:FuncData} (F:qL K "__init__" "Joint.__init__" ve f fd) (T:Txt K mg ad):av P w K mg base bw 1 f fd ["self","parts"] (ua K ad):=by
 refine F.ok EB (fun vs H Q E h=>?_) (fun gJ A outer s H vs Q E hr h=>?_)
 ·obtain⟨p,dx,l,b,xs,rfl,_⟩:=h
  rfl
 ·obtain⟨p,dx,l,b,xs,rfl,h,hl,k⟩:=h
  have cl:yF K (EH ad b):=by
   cases b
   ·exact T.rJ
   ·exact T.rH
  have n1:dg K (EH ad b) "parts" := by
   cases b
   ·exact T.vm
   ·exact T.vk
  refine⟨_,(@ai _ _ _ (qu (pv 0) (fw oS rfl T.tuple PyProof.Rows.boot_tuple (ae (pv 1) af)) rfl)),?_⟩
  and_intros
  refine⟨xs,hl,fun t ht=>⟨EH ad b,dx,[],?_,cl,n1,by decide,k t ht⟩⟩
  rw[aF (aG h ht)]
  exact h
theorem Gq {f:Addr}{fd:FuncData} (F:qL K "grows" "Not.grows" xi f fd) (T:Txt K mg ad):av P w K mg base bw 1 f fd ["self"] (oh ad):=by
 refine F.ok F4 (fun vs H Q E h=>?_) (fun gJ A outer s H vs Q E hr h=>?_)
 ·obtain⟨p,t,rfl,_⟩:=h
  rfl
 ·obtain⟨p,t,rfl,h,ok,k⟩:=h
  have k':=k H (aq.refl _)
  unfold fG at k'
  refine⟨_,(@ai _ _ _ (aK jP)),?_⟩
  and_intros
  exact k'
theorem DJ {f:Addr}{fd:FuncData}{n:Nat} (F:qL K "grows" "Joint.grows" pJ f fd) (T:Txt K mg ad) {gU:Addr}{jH:FuncData} (nB:av P w K mg base bw 1 gU jH ["self"] (og ad)) {fS:Addr}{iR:FuncData} (lG:av P w K mg base bw 1 fS iR ["self"] (mC ad)) {eI:Addr}{gD:FuncData} (jk:av P w K mg base bw 1 eI gD ["self"] (jS ad)) {eV:Addr}{ia:FuncData} (jX:av P w K mg base bw 1 eV ia ["self"] (kO ad)) {eJ:Addr}{gF:FuncData} (jl:av P w K mg base bw 1 eJ gF ["self"] (jT ad)) {cN:Addr}{gh:FuncData} (fU:av P w K mg base bw (n+2) cN gh ["self"] (jh ad n)) {gW:Addr}{jI:FuncData} (nC:av P w K mg base bw 1 gW jI ["self"] (oh ad)) (nD:Binds K jH ["self"] []) (lH:Binds K iR ["self"] []) (jm:Binds K gD ["self"] []) (jY:Binds K ia ["self"] []) (jn:Binds K gF ["self"] []) (gX:Binds K gh ["self"] []) (nE:Binds K jI ["self"] []) (lI:Meth K ad.Fn "grows" gU) (jZ:Meth K ad.rG "grows" fS) (iu:Meth K ad.iP "grows" eI) (jo:Meth K ad.Under "grows" eV) (iw:Meth K ad.iQ "grows" eJ) (lJ:Meth K ad.All "grows" cN) (lK:Meth K ad.Any "grows" cN) (lM:Meth K ad.Not "grows" gW):av P w K mg base bw (n+1+2) f fd ["self"] (jh ad (n+1)):=by
 refine F.ok xj (fun vs H Q E h=>?_) (fun gJ A outer s H vs Q E hr h=>?_)
 ·obtain⟨p,b,ps,rfl,_⟩:=h
  rfl
 ·obtain⟨p,b,ps,rfl,h,ok,hd,k⟩:=h
  unfold eB at h
  obtain⟨a,dx,t,xs,e,h,MC,Le⟩:=h
  cases e
  unfold ma at ok
  have cl:yF K (EH ad b):=by
   cases b
   ·exact T.rJ
   ·exact T.rH
  have n1:dg K (EH ad b) "parts" := by
   cases b
   ·exact T.vm
   ·exact T.vk
  refine⟨_,(@ai _ _ _ (aK (aS (Hm rfl) rfl T.all (by decide +kernel) (ae (fP (own:=["part"]) (cap:=[]) (ix:=[]) rfl (show br ["self"] (ar pJ) _ ["part"] [] [] from ⟨rfl,by decide +kernel,by decide +kernel,by decide +kernel,by decide +kernel,by decide +kernel,by decide +kernel,rfl,by decide +kernel⟩) (wH (bt (pv 0) rfl)) (fun C s₀ H₀ ex pn=>⟨aZ (i:=0) (show (["part"]:List Str).Nodup by decide +kernel) rfl (Or.inl rfl),fh,(ao (ao (ao (ao (ao (ao (ao (eo (pv 0) T.tV lI nB (hr.mono (by omega)) nD .nil aA) (eo (pv 0) T.mM jZ lG (hr.mono (by omega)) lH .nil aA)) (eo (pv 0) T.jd iu jk (hr.mono (by omega)) jm .nil aA)) (eo (pv 0) T.kK jo jX (hr.mono (by omega)) jY .nil aA)) (eo (pv 0) T.je iw jl (hr.mono (by omega)) jn .nil aA)) (eo (pv 0) T.rH lJ fU (hr.mono (by omega)) gX .nil aA)) (eo (pv 0) T.rJ lK fU (hr.mono (by omega)) gX .nil aA)) (eo (pv 0) T.kJ lM nC (hr.mono (by omega)) nE .nil aA))⟩)) af)))),?_⟩
  and_intros
  refine uJ (K:=K) (a:=t) (xs:=xs) (H1:=H) (fun R r=>⟨_,rfl,p,_,dx,_,_,rfl,h,cl,n1,rfl,t,rfl,⟨_,df.of MC⟩,r⟩) (fun i ys H'=>aq H H'∧ys=((ps.take i).map fG).map V.bl) ⟨aq.refl _,rfl⟩ (fun i ys H' _ ⟨s,_⟩=>df.of (s _ _ MC)) ?_ ?_
  ·rintro i x ys H' R hx ⟨s2,rfl⟩ hR
   simp only[wQ]
   and_intros
   obtain⟨pm,G2,TV⟩:=Le.get hx
   have sQ:=List.mem_of_getElem? G2
   have:=i3 sQ
   refine Ly (n:=n) (Q:=fun y H4=>(List.map V.bl (List.map fG (List.take i ps))).length<sizeLine∧R (List.map V.bl (List.map fG (List.take i ps))++[y]) H4) (E:=E0) (TV.same s2) (i4 ok.2 sQ) (by omega) (fun H3 s3=>⟨ay (by rw[List.length_map,List.length_map,List.length_take];omega),hR _ _ ⟨s2.trans s3,?_⟩⟩) (fun⟨a,x,y,e,h1,h2,s⟩=>⟨a,e,x,y,h1,h2,s⟩) (fun⟨a,x,y,e,h1,h2,s⟩=>⟨a,e,x,y,h1,h2,s⟩) (fun⟨a,x,y,e,h1,h2,s⟩=>⟨a,e,x,y,h1,h2,s⟩) (fun⟨a,x,y,e,h1,h2,s⟩=>⟨a,e,x,y,h1,h2,s⟩) (fun⟨a,x,y,e,h1,h2,s⟩=>⟨a,e,x,y,h1,h2,s⟩) (fun⟨a,x,y,e,h1,h2,s⟩=>⟨a,e,x,y,h1,h2,s⟩) (fun⟨a,x,y,e,h1,h2,s⟩=>⟨a,e,x,y,h1,h2,s⟩) (fun⟨a,x,y,e,h1,h2,s⟩=>⟨a,e,x,y,h1,h2,s⟩)
   rw[List.take_add_one,G2,List.map_append,List.map_append]
   rfl
  ·rintro ys H' ⟨s2,rfl⟩
   rw[Le.length,List.take_length]
   refine⟨Nat.le_of_lt (ay (by rw[List.length_map,List.length_map];omega)),fun L hL=>⟨L,rfl,_,bA.of ag,?_⟩⟩
   have:=k _ (s2.upd (o:=.lst ((ps.map fG).map V.bl)) hL)
   unfold fG at this
   rw[DE] at this
   rw[List.all_map]
   exact this
theorem Gr {f:Addr}{fd:FuncData}{n:Nat} (F:qL K "holds" "All.holds" xf f fd) (T:Txt K mg ad) {c7:Addr}{dW:FuncData} (d7:av P w K mg base bw 2 c7 dW ["self","thing"] (iE ad)) {cH:Addr}{c5:FuncData} (dn:av P w K mg base bw 2 cH c5 ["self","thing"] (gS ad)) {bP:Addr}{cn:FuncData} (cz:av P w K mg base bw 3 bP cn ["self","thing"] (fB ad)) {cj:Addr}{cK:FuncData} (cO:av P w K mg base bw 4 cj cK ["self","thing"] (gg ad)) {bQ:Addr}{cq:FuncData} (cA:av P w K mg base bw 4 bQ cq ["self","thing"] (fE ad)) {c9:Addr}{dq:FuncData} (dJ:av P w K mg base bw (n+5) c9 dq ["self","thing"] (iF ad n)) {da:Addr}{dr:FuncData} (dM:av P w K mg base bw (n+5) da dr ["self","thing"] (iG ad n)) {de:Addr}{du:FuncData} (dN:av P w K mg base bw (n+5) de du ["self","thing"] (iH ad n)) (d8:Binds K dW ["self","thing"] []) (dv:Binds K c5 ["self","thing"] []) (cB:Binds K cn ["self","thing"] []) (cP:Binds K cK ["self","thing"] []) (cC:Binds K cq ["self","thing"] []) (d9:Binds K dq ["self","thing"] []) (ef:Binds K dr ["self","thing"] []) (ek:Binds K du ["self","thing"] []) (dw:Meth K ad.Fn "holds" c7) (cQ:Meth K ad.rG "holds" cH) (bW:Meth K ad.iP "holds" bP) (cD:Meth K ad.Under "holds" cj) (bX:Meth K ad.iQ "holds" bQ) (dy:Meth K ad.All "holds" c9) (dz:Meth K ad.Any "holds" da) (dD:Meth K ad.Not "holds" de):av P w K mg base bw (n+1+5) f fd ["self","thing"] (iF ad (n+1)):=by
 refine F.ok vh (fun vs H Q E h=>?_) (fun gJ A outer s H vs Q E hr h=>?_)
 ·obtain⟨p,q,d,ps,rfl,_⟩:=h
  rfl
 ·obtain⟨p,q,d,ps,rfl,h,ok,ht,hd,k⟩:=h
  unfold eB at h
  obtain⟨a,dx,t,xs,e,h,MC,Le⟩:=h
  cases e
  unfold ma at ok
  have k':∀ H',aq H H'→Q (.bl (ps.all (cg d))) H':=fun H' s'=>by have:=k H' s';unfold cg at this;rw[DA] at this;exact this
  refine⟨_,(@ah _ _ _ _ _ (fZ PassesOwn.never rfl (wH (bt (pv 0) rfl)) (aZ (i:=2) vh.nd rfl (Or.inl rfl))
   (@ai _ _ _ (cE (nJ (mS (ao (ao (ao (ao (ao (ao (ao (au (pv 2) T.tV dw d7 (hr.mono (by omega)) d8 .nil aA (ae (pv 1) af)) (au (pv 2) T.mM cQ dn (hr.mono (by omega)) dv .nil aA (ae (pv 1) af))) (au (pv 2) T.jd bW cz (hr.mono (by omega)) cB .nil aA (ae (pv 1) af))) (au (pv 2) T.kK cD cO (hr.mono (by omega)) cP .nil aA (ae (pv 1) af))) (au (pv 2) T.je bX cA (hr.mono (by omega)) cC .nil aA (ae (pv 1) af))) (au (pv 2) T.rH dy dJ (hr.mono (by omega)) d9 .nil aA (ae (pv 1) af))) (au (pv 2) T.rJ dz dM (hr.mono (by omega)) ef .nil aA (ae (pv 1) af))) (au (pv 2) T.kJ dD dN (hr.mono (by omega)) ek .nil aA (ae (pv 1) af)))))
   (@ai _ _ _ (aK jP))
   aV)))
   (@ai _ _ _ (aK jP))),?_⟩
  refine ak fun B hB=>?_
  refine (show tN _ _ _ _ _ _ from ?_)
  refine (show iTup _ _ _ _ _ from ?_)
  refine⟨_,rfl,p,_,dx,_,_,rfl,h,T.rH,T.vk,rfl,t,rfl,⟨_,df.of MC⟩,FA (xs:=xs) (fun i σ H'=>aq H H'∧((ps.take i).all (cg d)=true)∧∃ o:Option V,bx σ [some (.ref p),some (.ref q),o]) ⟨aq.refl _,rfl,none,bx.rfl⟩ (fun i σ H' _ ⟨e,_⟩=>df.of (e _ _ MC)) ?_ ?_⟩
  ·rintro i x σ H' hx ⟨s1,hb,o,rfl⟩
   obtain⟨pm,G2,TV⟩:=Le.get hx
   have sQ:=List.mem_of_getElem? G2
   have Zl:=i3 sQ
   and_intros
   refine Ge (n:=n) (Q:=fun G1 H1=>∃ c,G1=V.bl c∧if c=false then Q (V.bl false) H1 else aq H H1∧((List.take (i+1) ps).all (cg d)=true)∧∃ o,bx [some (V.ref p),some (V.ref q),some x] [some (V.ref p),some (V.ref q),o]) (TV.same s1) (i4 ok.2 sQ) (ht.same s1) (by omega) (fun H2 s2=>⟨_,rfl,?_⟩) (fun⟨a,x,y,e,h1,h2,s⟩=>⟨a,e,x,y,h1,h2,s⟩) (fun⟨a,x,y,e,h1,h2,s⟩=>⟨a,e,x,y,h1,h2,s⟩) (fun⟨a,x,y,e,h1,h2,s⟩=>⟨a,e,x,y,h1,h2,s⟩) (fun⟨a,x,y,e,h1,h2,s⟩=>⟨a,e,x,y,h1,h2,s⟩) (fun⟨a,x,y,e,h1,h2,s⟩=>⟨a,e,x,y,h1,h2,s⟩) (fun⟨a,x,y,e,h1,h2,s⟩=>⟨a,e,x,y,h1,h2,s⟩) (fun⟨a,x,y,e,h1,h2,s⟩=>⟨a,e,x,y,h1,h2,s⟩) (fun⟨a,x,y,e,h1,h2,s⟩=>⟨a,e,x,y,h1,h2,s⟩)
   by_cases hc:cg d pm=false
   ·rw[if_pos hc]
    have:=k' H2 (s1.trans s2)
    rw[show ps.all (cg d)=false from List.all_eq_false.mpr ⟨pm,sQ,by rw[hc];decide⟩] at this
    exact this
   ·rw[if_neg hc]
    refine⟨s1.trans s2,?_,_,bx.rfl⟩
    rw[List.take_add_one,G2]
    rw[List.all_append,hb,Bool.true_and];show (cg d pm&&true)=true;rw[Bool.and_true];exact Bool.not_eq_false _▸hc
  rintro σ H' ⟨s1,hb,o,rfl⟩
  dsimp only
  subst hB
  and_intros
  rw[Le.length,List.take_length] at hb
  rw[hb] at k'
  exact k' H' s1
theorem Gs {f:Addr}{fd:FuncData}{n:Nat} (F:qL K "holds" "Any.holds" xg f fd) (T:Txt K mg ad) {c7:Addr}{dW:FuncData} (d7:av P w K mg base bw 2 c7 dW ["self","thing"] (iE ad)) {cH:Addr}{c5:FuncData} (dn:av P w K mg base bw 2 cH c5 ["self","thing"] (gS ad)) {bP:Addr}{cn:FuncData} (cz:av P w K mg base bw 3 bP cn ["self","thing"] (fB ad)) {cj:Addr}{cK:FuncData} (cO:av P w K mg base bw 4 cj cK ["self","thing"] (gg ad)) {bQ:Addr}{cq:FuncData} (cA:av P w K mg base bw 4 bQ cq ["self","thing"] (fE ad)) {c9:Addr}{dq:FuncData} (dJ:av P w K mg base bw (n+5) c9 dq ["self","thing"] (iF ad n)) {da:Addr}{dr:FuncData} (dM:av P w K mg base bw (n+5) da dr ["self","thing"] (iG ad n)) {de:Addr}{du:FuncData} (dN:av P w K mg base bw (n+5) de du ["self","thing"] (iH ad n)) (d8:Binds K dW ["self","thing"] []) (dv:Binds K c5 ["self","thing"] []) (cB:Binds K cn ["self","thing"] []) (cP:Binds K cK ["self","thing"] []) (cC:Binds K cq ["self","thing"] []) (d9:Binds K dq ["self","thing"] []) (ef:Binds K dr ["self","thing"] []) (ek:Binds K du ["self","thing"] []) (dw:Meth K ad.Fn "holds" c7) (cQ:Meth K ad.rG "holds" cH) (bW:Meth K ad.iP "holds" bP) (cD:Meth K ad.Under "holds" cj) (bX:Meth K ad.iQ "holds" bQ) (dy:Meth K ad.All "holds" c9) (dz:Meth K ad.Any "holds" da) (dD:Meth K ad.Not "holds" de):av P w K mg base bw (n+1+5) f fd ["self","thing"] (iG ad (n+1)):=by
 refine F.ok vi (fun vs H Q E h=>?_) (fun gJ A outer s H vs Q E hr h=>?_)
 ·obtain⟨p,q,d,ps,rfl,_⟩:=h
  rfl
 ·obtain⟨p,q,d,ps,rfl,h,ok,ht,hd,k⟩:=h
  unfold eB at h
  obtain⟨a,dx,t,xs,e,h,MC,Le⟩:=h
  cases e
  unfold ma at ok
  have k':∀ H',aq H H'→Q (.bl (ps.any (cg d))) H':=fun H' s'=>by have:=k H' s';unfold cg at this;rw[DB] at this;exact this
  refine⟨_,(@ah _ _ _ _ _ (fZ PassesOwn.never rfl (wH (bt (pv 0) rfl)) (aZ (i:=2) vi.nd rfl (Or.inl rfl))
   (@ai _ _ _ (cE (mS (ao (ao (ao (ao (ao (ao (ao (au (pv 2) T.tV dw d7 (hr.mono (by omega)) d8 .nil aA (ae (pv 1) af)) (au (pv 2) T.mM cQ dn (hr.mono (by omega)) dv .nil aA (ae (pv 1) af))) (au (pv 2) T.jd bW cz (hr.mono (by omega)) cB .nil aA (ae (pv 1) af))) (au (pv 2) T.kK cD cO (hr.mono (by omega)) cP .nil aA (ae (pv 1) af))) (au (pv 2) T.je bX cA (hr.mono (by omega)) cC .nil aA (ae (pv 1) af))) (au (pv 2) T.rH dy dJ (hr.mono (by omega)) d9 .nil aA (ae (pv 1) af))) (au (pv 2) T.rJ dz dM (hr.mono (by omega)) ef .nil aA (ae (pv 1) af))) (au (pv 2) T.kJ dD dN (hr.mono (by omega)) ek .nil aA (ae (pv 1) af))))
   (@ai _ _ _ (aK jP))
   aV)))
   (@ai _ _ _ (aK jP))),?_⟩
  refine ak fun B hB=>?_
  refine (show tN _ _ _ _ _ _ from ?_)
  refine (show iTup _ _ _ _ _ from ?_)
  refine⟨_,rfl,p,_,dx,_,_,rfl,h,T.rJ,T.vm,rfl,t,rfl,⟨_,df.of MC⟩,FA (xs:=xs) (fun i σ H'=>aq H H'∧((ps.take i).any (cg d)=false)∧∃ o:Option V,bx σ [some (.ref p),some (.ref q),o]) ⟨aq.refl _,rfl,none,bx.rfl⟩ (fun i σ H' _ ⟨e,_⟩=>df.of (e _ _ MC)) ?_ ?_⟩
  ·rintro i x σ H' hx ⟨s1,hb,o,rfl⟩
   obtain⟨pm,G2,TV⟩:=Le.get hx
   have sQ:=List.mem_of_getElem? G2
   have Zl:=i3 sQ
   and_intros
   refine Ge (n:=n) (Q:=fun G1 H1=>∃ c,G1=V.bl c∧if c=true then Q (V.bl true) H1 else aq H H1∧((List.take (i+1) ps).any (cg d)=false)∧∃ o,bx [some (V.ref p),some (V.ref q),some x] [some (V.ref p),some (V.ref q),o]) (TV.same s1) (i4 ok.2 sQ) (ht.same s1) (by omega) (fun H2 s2=>⟨_,rfl,?_⟩) (fun⟨a,x,y,e,h1,h2,s⟩=>⟨a,e,x,y,h1,h2,s⟩) (fun⟨a,x,y,e,h1,h2,s⟩=>⟨a,e,x,y,h1,h2,s⟩) (fun⟨a,x,y,e,h1,h2,s⟩=>⟨a,e,x,y,h1,h2,s⟩) (fun⟨a,x,y,e,h1,h2,s⟩=>⟨a,e,x,y,h1,h2,s⟩) (fun⟨a,x,y,e,h1,h2,s⟩=>⟨a,e,x,y,h1,h2,s⟩) (fun⟨a,x,y,e,h1,h2,s⟩=>⟨a,e,x,y,h1,h2,s⟩) (fun⟨a,x,y,e,h1,h2,s⟩=>⟨a,e,x,y,h1,h2,s⟩) (fun⟨a,x,y,e,h1,h2,s⟩=>⟨a,e,x,y,h1,h2,s⟩)
   by_cases hc:cg d pm=true
   ·rw[if_pos hc]
    have:=k' H2 (s1.trans s2)
    rw[show ps.any (cg d)=true from List.any_eq_true.mpr ⟨pm,sQ,hc⟩] at this
    exact this
   ·rw[if_neg hc]
    refine⟨s1.trans s2,?_,_,bx.rfl⟩
    rw[List.take_add_one,G2]
    rw[List.any_append,hb,Bool.false_or];show (cg d pm||false)=false;rw[Bool.or_false];exact Bool.not_eq_true _▸hc
  rintro σ H' ⟨s1,hb,o,rfl⟩
  dsimp only
  subst hB
  and_intros
  rw[Le.length,List.take_length] at hb
  rw[hb] at k'
  exact k' H' s1
theorem Gu {f:Addr}{fd:FuncData}{n:Nat} (F:qL K "holds" "Not.holds" xh f fd) (T:Txt K mg ad) {c7:Addr}{dW:FuncData} (d7:av P w K mg base bw 2 c7 dW ["self","thing"] (iE ad)) {cH:Addr}{c5:FuncData} (dn:av P w K mg base bw 2 cH c5 ["self","thing"] (gS ad)) {bP:Addr}{cn:FuncData} (cz:av P w K mg base bw 3 bP cn ["self","thing"] (fB ad)) {cj:Addr}{cK:FuncData} (cO:av P w K mg base bw 4 cj cK ["self","thing"] (gg ad)) {bQ:Addr}{cq:FuncData} (cA:av P w K mg base bw 4 bQ cq ["self","thing"] (fE ad)) {c9:Addr}{dq:FuncData} (dJ:av P w K mg base bw (n+5) c9 dq ["self","thing"] (iF ad n)) {da:Addr}{dr:FuncData} (dM:av P w K mg base bw (n+5) da dr ["self","thing"] (iG ad n)) {de:Addr}{du:FuncData} (dN:av P w K mg base bw (n+5) de du ["self","thing"] (iH ad n)) (d8:Binds K dW ["self","thing"] []) (dv:Binds K c5 ["self","thing"] []) (cB:Binds K cn ["self","thing"] []) (cP:Binds K cK ["self","thing"] []) (cC:Binds K cq ["self","thing"] []) (d9:Binds K dq ["self","thing"] []) (ef:Binds K dr ["self","thing"] []) (ek:Binds K du ["self","thing"] []) (dw:Meth K ad.Fn "holds" c7) (cQ:Meth K ad.rG "holds" cH) (bW:Meth K ad.iP "holds" bP) (cD:Meth K ad.Under "holds" cj) (bX:Meth K ad.iQ "holds" bQ) (dy:Meth K ad.All "holds" c9) (dz:Meth K ad.Any "holds" da) (dD:Meth K ad.Not "holds" de):av P w K mg base bw (n+1+5) f fd ["self","thing"] (iH ad (n+1)):=by
 refine F.ok Aq (fun vs H Q E h=>?_) (fun gJ A outer s H vs Q E hr h=>?_)
 ·obtain⟨p,q,d,tm,rfl,_⟩:=h
  rfl
 ·obtain⟨p,q,d,tm,rfl,h,ok,ht,hd,k⟩:=h
  unfold eB at h
  obtain⟨a,dx,x,e,h,hf⟩:=h
  cases e
  unfold ma at ok
  refine⟨_,(@ai _ _ _ (aK (MR (ao (ao (ao (ao (ao (ao (ao (au (bt (pv 0) rfl) T.tV dw d7 (hr.mono (by omega)) d8 .nil aA (ae (pv 1) af)) (au (bt (pv 0) rfl) T.mM cQ dn (hr.mono (by omega)) dv .nil aA (ae (pv 1) af))) (au (bt (pv 0) rfl) T.jd bW cz (hr.mono (by omega)) cB .nil aA (ae (pv 1) af))) (au (bt (pv 0) rfl) T.kK cD cO (hr.mono (by omega)) cP .nil aA (ae (pv 1) af))) (au (bt (pv 0) rfl) T.je bX cA (hr.mono (by omega)) cC .nil aA (ae (pv 1) af))) (au (bt (pv 0) rfl) T.rH dy dJ (hr.mono (by omega)) d9 .nil aA (ae (pv 1) af))) (au (bt (pv 0) rfl) T.rJ dz dM (hr.mono (by omega)) ef .nil aA (ae (pv 1) af))) (au (bt (pv 0) rfl) T.kJ dD dN (hr.mono (by omega)) ek .nil aA (ae (pv 1) af)))))),?_⟩
  and_intros
  refine Ge (n:=n) (Q:=fun x H1=>∃ c,x=V.bl c∧Q (V.bl !c) H1) hf ok ht (by omega) (fun H' s'=>⟨_,rfl,by have:=k H' s';unfold cg at this;exact this⟩) (fun⟨a,x,y,e,h1,h2,s⟩=>⟨_,_,_,h,T.kJ,T.iD,_,rfl,a,e,x,y,h1,h2,s⟩) (fun⟨a,x,y,e,h1,h2,s⟩=>⟨_,_,_,h,T.kJ,T.iD,_,rfl,a,e,x,y,h1,h2,s⟩) (fun⟨a,x,y,e,h1,h2,s⟩=>⟨_,_,_,h,T.kJ,T.iD,_,rfl,a,e,x,y,h1,h2,s⟩) (fun⟨a,x,y,e,h1,h2,s⟩=>⟨_,_,_,h,T.kJ,T.iD,_,rfl,a,e,x,y,h1,h2,s⟩) (fun⟨a,x,y,e,h1,h2,s⟩=>⟨_,_,_,h,T.kJ,T.iD,_,rfl,a,e,x,y,h1,h2,s⟩) (fun⟨a,x,y,e,h1,h2,s⟩=>⟨_,_,_,h,T.kJ,T.iD,_,rfl,a,e,x,y,h1,h2,s⟩) (fun⟨a,x,y,e,h1,h2,s⟩=>⟨_,_,_,h,T.kJ,T.iD,_,rfl,a,e,x,y,h1,h2,s⟩) (fun⟨a,x,y,e,h1,h2,s⟩=>⟨_,_,_,h,T.kJ,T.iD,_,rfl,a,e,x,y,h1,h2,s⟩)
theorem Iy {f:Addr}{fd:FuncData} (F:qL K "__init__" "Not.__init__" zd f fd) (T:Txt K mg ad):av P w K mg base bw 1 f fd ["self","part"] (xx ad):=by
 refine F.ok HY (fun vs H Q E h=>?_) (fun gJ A outer s H vs Q E hr h=>?_)
 ·obtain⟨p,dx,x,rfl,_⟩:=h
  rfl
 ·obtain⟨p,dx,x,rfl,h,k⟩:=h
  refine⟨_,(@ai _ _ _ (qu (pv 0) (pv 1) rfl)),?_⟩
  and_intros
  exact⟨ad.Not,dx,[],h,T.kJ,T.iD,by decide,k⟩
theorem Iz {f:Addr}{fd:FuncData} (D:Def K mg "is_whole" oU ["thing"] f fd) (T:Txt K mg ad):av P w K mg base bw 1 f fd ["thing"] sX:=by
 refine D.F.ok HZ (fun vs H Q E h=>?_) (fun gJ A outer s H vs Q E hr h=>?_)
 ·obtain⟨v,rfl,_⟩:=h
  rfl
 ·obtain⟨v,rfl,t,k⟩:=h
  obtain⟨y,ty,_,e2,e3⟩:=t.ty (K:=K)
  refine⟨_,(@ai _ _ _ (aK (CY (aS rg rfl T.isinstance PyProof.Rows.boot_isinstance (ae (pv 0) (ae (Fg rfl T.int PyProof.Rows.boot_int) af))) (CW (MR (aS rg rfl T.isinstance PyProof.Rows.boot_isinstance (ae (pv 0) (ae (Fg rfl T.bool PyProof.Rows.boot_bool) af)))))))),?_⟩
  and_intros
  refine⟨y,ty,_,e2,?_⟩
  cases t with
  | cU=>exact Nf k
  | str x h=>exact Nf k
  | lst h=>exact Nf k
  | tup h=>exact Nf k
  | bl b=>exact Hi ⟨y,ty,_,e3,k⟩
  | int i=>exact Hi ⟨y,ty,_,e3,k⟩
theorem JM {f:Addr}{fd:FuncData} (D:Def K mg "is_mark" oV ["thing"] f fd) (T:Txt K mg ad):av P w K mg base bw 1 f fd ["thing"] vn:=by
 refine D.F.ok JC (fun vs H Q E h=>?_) (fun gJ A outer s H vs Q E hr h=>?_)
 ·obtain⟨v,rfl,_⟩:=h
  rfl
 ·obtain⟨v,rfl,t,k⟩:=h
  obtain⟨DK,MD⟩:=T.uK
  obtain⟨wq,DL⟩:=T.kH
  obtain⟨y,ty,e1,_,_⟩:=t.ty (K:=K)
  refine⟨_,(@ah _ _ _ _ _ (cE (nJ (mS (aS rg rfl T.isinstance PyProof.Rows.boot_isinstance (ae (pv 0) (ae (Fg rfl T.str PyProof.Rows.boot_str) af)))))
   (@ai _ _ _ (aK jP))
   aV)
   (@ah _ _ _ _ _ (cE (nJ (C2 Ha Ha aj (aS FJ rfl T.len PySem.boot_len (ae (pv 0) af)) (uW (v:=.int 8) rfl DL ⟨_,rfl⟩)))
   (@ai _ _ _ (aK jP))
   aV)
   (@ai _ _ _ (aK (aS (Hm rfl) rfl T.all (by decide +kernel) (ae (fP (own:=["sign"]) (cap:=[]) (ix:=[]) rfl (show br ["thing"] (ar oV) _ ["sign"] [] [] from ⟨rfl,by decide +kernel,by decide +kernel,by decide +kernel,by decide +kernel,by decide +kernel,by decide +kernel,rfl,by decide +kernel⟩) (QJ (pv 0)) (fun C s₀ H₀ ex pn=>⟨aZ (i:=0) (show (["sign"]:List Str).Nodup by decide +kernel) rfl (Or.inl rfl),fh,(kc LO (pv 0) (uW (v:=.str Jm) rfl MD ⟨_,rfl⟩) rfl)⟩)) af)))))),?_⟩
  refine⟨_,rfl,v,"str",y,_,rfl,ty,e1,_,rfl,?_⟩
  cases t with
  | cU=>exact Hi (k H (aq.refl H))
  | int i=>exact Hi (k H (aq.refl H))
  | bl b=>exact Hi (k H (aq.refl H))
  | lst h=>exact Hi (k H (aq.refl H))
  | tup h=>exact Hi (k H (aq.refl H))
  | str x hx =>
   refine Nf ?_
   have hz:x.length≤sizeLine:=Nat.le_of_lt (ay hx)
   refine⟨_,rfl,x,rfl,hz,_,_,rfl,rfl,_,rfl,?_⟩
   have km:∀ H',aq H H'→Q (.bl (d6 x)) H':=k
   refine fz (fun h1=>?_) (fun h1=>?_)
   ·have h1:1≤x.length:=by have:=of_decide_eq_true h1;omega
    refine⟨_,_,rfl,rfl,_,rfl,?_⟩
    refine fz (fun h2=>?_) (fun h2=>?_)
    ·have h2:¬ x.length≤8:=by simp at h2;omega
     have e:d6 x=false:=by unfold d6;rw[decide_eq_false h2];simp
     rw[e] at km
     exact km H (aq.refl H)
    ·have h2:x.length≤8:=by simp at h2;omega
     dsimp only[tNext,tRet,tCB,tCons]
     refine L7 (z:=x) (fun R r=>⟨_,rfl,x,rfl,r⟩) (fun i ys H'=>H'=H∧∃ bs:List Bool,ys=bs.map V.bl∧bs.length=i∧bs.all id=(x.cps.toList.take i).all FR) ⟨rfl,[],rfl,rfl,by simp⟩ ?_ ?_
     ·rintro i c ys H' R hc ⟨rfl,bs,rfl,O2,PH⟩ hR
      refine⟨_,rfl,_,_,rfl,rfl,?_,hR _ _ ⟨rfl,bs++[FR c],by simp [FR],by simp [O2],?_⟩⟩
      ·rw[List.length_map,O2]
       have:i<x.cps.size:=(Array.getElem?_eq_some_iff.mp hc).1
       have z4:x.cps.size=x.length:=rfl
       omega
      ·rw[Ey (by simpa using hc),←PH]
       simp
     ·rintro ys H' ⟨rfl,bs,rfl,O2,PH⟩
      refine⟨?_,fun Dd hD=>⟨Dd,bs,rfl,bA.of ag,?_⟩⟩
      ·rw[List.length_map,O2];exact hz
      ·have e:bs.all id=d6 x:=by
        rw[PH,List.take_of_length_le (by simp)]
        unfold d6
        rw[decide_eq_true h1,decide_eq_true h2]
        simp
       rw[e]
       exact km _ fun b o q=>by rw[aF (aG q hD)];exact q
   ·have h1:¬ 1≤x.length:=by
     have q:(x.length:Int)<1:=by simpa using h1
     omega
    have e:d6 x=false:=by unfold d6;rw[decide_eq_false h1];simp
    rw[e] at km
    exact⟨_,rfl,Hi (km H (aq.refl H))⟩
theorem EN {f:Addr}{fd:FuncData} (D:Def K mg "check_list" jy ["thing","most"] f fd) (T:Txt K mg ad):av P w K mg base (oP P w) 1 f fd ["thing","most"] (mq ad):=by
 refine D.F.MJ EC (fun vs H Q E h=>?_) (fun gJ A outer s H vs Q E hr h=>?_)
 ·obtain⟨v,n,rfl,_⟩:=h
  rfl
 ·obtain⟨v,n,rfl,t,kg,kb⟩:=h
  obtain⟨y,b,ty,e,hb⟩:=t.isList (K:=K)
  refine⟨_,(@ah _ _ _ _ _ (cE (nJ (mS (aS rg rfl T.isinstance PyProof.Rows.boot_isinstance (ae (pv 0) (ae (Fg rfl T.list PyProof.Rows.boot_list) af)))))
   (@ai _ _ _ (nM T.oY rfl qM rfl (ae bI af)))
   aV)
   (@ai _ _ _ (cE (aL wL (aS bE rfl T.len PySem.boot_len (ae (pv 0) af)) (pv 1) (aQ _))
   (@ai _ _ _ (nM T.oY rfl qM rfl (ae bI af)))
   aV))),?_⟩
  and_intros
  refine⟨y,ty,b,e,?_⟩
  have h1:1≤sizeLine:=by decide
  rcases hb with ⟨rfl,a,xs,rfl,ha⟩ | ⟨rfl,hb⟩
  ·refine fz (fun z=>nomatch z) fun _=>⟨a,rfl,xs,bA.of ha,fz (fun h=>⟨h1,kb ?_⟩) fun h=>kg ⟨a,xs,rfl,ha,by omega⟩⟩
   rintro⟨a',GZ,e',h',l'⟩
   cases e'
   rw[ha] at h'
   cases h'
   omega
  ·refine fz (fun _=>⟨h1,kb ?_⟩) fun z=>absurd rfl z
   rintro⟨a',GZ,e',h',l'⟩
   exact hb a' GZ e' h'
theorem DM {f:Addr}{fd:FuncData} (D:Def K mg "check_marks" jW ["marks","most"] f fd) (T:Txt K mg ad) {dX:Addr}{eX:FuncData} (gN:av P w K mg base (oP P w) 1 dX eX ["thing","most"] (mq ad)) {j4:Addr}{m6:FuncData} (rh:av P w K mg base bw 1 j4 m6 ["thing"] vn) (cI:Def K mg "check_list" jy ["thing","most"] dX eX) (jq:Def K mg "is_mark" oV ["thing"] j4 m6):av P w K mg base (oP P w) 2 f fd ["marks","most"] (n9 ad):=by
 refine D.F.MJ xk (fun vs H Q E h=>?_) (fun gJ A outer s H vs Q E hr h=>?_)
 ·obtain⟨v,n,rfl,_⟩:=h
  rfl
 ·obtain⟨v,n,rfl,t,kg,kb⟩:=h
  refine⟨_,(@ah _ _ _ _ _ (dk (aT gN (hr.mono (by decide)) rfl cI.mg cI.F.kp cI.b .nil sU (ae (pv 0) (ae (pv 1) af))))
   (@ai _ _ _ (fZ PassesOwn.leaving rfl (dU (pv 0)) (aZ (i:=2) xk.nd rfl (Or.inl rfl))
   (@ai _ _ _ (cE (nJ (mS (aT rh (hr.mono (by decide)) rfl jq.mg jq.F.kp jq.b .nil aA (ae (pv 2) af))))
   (@ai _ _ _ (nM T.oY rfl qM rfl (ae bI af)))
   aV))))),?_⟩
  and_intros
  refine⟨v,n,rfl,t.1,fun hg=>?_,fun hb=>kb (fun⟨a,xs,e,h,l,_⟩=>hb ⟨a,xs,e,h,l⟩) H (aq.refl H)⟩
  obtain⟨a,xs,rfl,ha,hl⟩:=hg
  refine⟨_,rfl,a,rfl,⟨_,bA.of ha⟩,jQ (xs:=xs) (fun i σ H'=>aq H H'∧(xs.take i).all markV=true∧∃ o,σ=[some (.ref a),some (.int n),o]) ⟨aq.refl H,by simp,_,rfl⟩ ?_ ?_ ?_⟩
  ·rintro i σ H' _ ⟨s1,_,_⟩
   exact bA.of (s1 _ _ ha)
  ·rintro i x σ H' hx ⟨s1,h1,o,rfl⟩
   and_intros
   refine⟨x,rfl,(t.2 a xs rfl ha x (List.mem_of_getElem? hx)).same s1,fun H2 s2=>?_⟩
   and_intros
   have h3:(xs.take (i+1)).all markV=((xs.take i).all markV&&markV x):=by rw[List.take_add_one,hx];simp
   refine fz (fun h2=>⟨by decide,kb ?_ H2 (s1.trans s2)⟩) fun h2=>⟨s1.trans s2,?_,_,rfl⟩
   ·rintro⟨a',GZ,e',h',l',m'⟩
    cases e'
    rw[ha] at h'
    cases h'
    have:=List.all_eq_true.mp m' x (List.mem_of_getElem? hx)
    rw[h2] at this
    cases this
   ·rw[h3,h1]
    cases hm:markV x
    ·exact absurd hm h2
    ·rfl
  ·rintro σ H' ⟨s1,h1,o,rfl⟩
   rw[List.take_length] at h1
   exact kg ⟨a,xs,rfl,ha,hl,h1⟩ H' s1
theorem EO {f:Addr}{fd:FuncData} (D:Def K mg "check_node" nO ["node","deepest"] f fd) (T:Txt K mg ad) {j4:Addr}{m6:FuncData} (rh:av P w K mg base bw 1 j4 m6 ["thing"] vn) {iS:Addr}{kQ:FuncData} (pk:av P w K mg base bw 1 iS kQ ["thing"] sX) (jq:Def K mg "is_mark" oV ["thing"] j4 m6) (ib:Def K mg "is_whole" oU ["thing"] iS kQ):av P w K mg base (oP P w) 2 f fd ["node","deepest"] (tW ad):=by
 refine D.F.MJ ED (fun vs H Q E h=>?_) (fun gJ A outer s H vs Q E hr h=>?_)
 ·obtain⟨v,d,rfl,_⟩:=h
  rfl
 ·obtain⟨v,d,rfl,t,kg,kb⟩:=h
  obtain⟨y,b,ty,e,hb⟩:=t.1.isTup (K:=K)
  refine⟨_,(@ah _ _ _ _ _ (cE (PW.pt (pw_or (nJ (mS (aS rg rfl T.isinstance PyProof.Rows.boot_isinstance (ae (pv 0) (ae (Fg rfl T.tuple PyProof.Rows.boot_tuple) af))))) (pw_or1 (aL Pp (aS uH rfl T.len PySem.boot_len (ae (pv 0) af)) aj (aQ _)))))
   (@ai _ _ _ (nM T.oY rfl qM rfl (ae bI af)))
   aV)
   (@ah _ _ _ _ _ (cE (nJ (mS (aT rh (hr.mono (by decide)) rfl jq.mg jq.F.kp jq.b .nil aA (ae (bo cT (pv 0) aj (fun _ _=>rfl)) af))))
   (@ai _ _ _ (nM T.oY rfl qM rfl (ae bI af)))
   aV)
   (@ai _ _ _ (cE (PW.pt (pw_or (nJ (mS (aT pk (hr.mono (by decide)) rfl ib.mg ib.F.kp ib.b .nil aA (ae (bo cT (pv 0) aj (fun _ _=>rfl)) af)))) (pw_or1 (nJ (C2 Ha Ha aj (bo cT (pv 0) aj (fun _ _=>rfl)) (pv 1))))))
   (@ai _ _ _ (nM T.oY rfl qM rfl (ae bI af)))
   aV)))),?_⟩
  and_intros
  refine⟨y,ty,b,e,?_⟩
  have h1:1≤sizeLine:=by decide
  rcases hb with ⟨rfl,a,xs,rfl,ha⟩ | ⟨rfl,hb⟩
  ·and_intros
   have no:xs.length≠2→∀ n,¬ ka H (.ref a) n:=fun h n ⟨a',e',h'⟩=>by
    cases e'
    rw[ha] at h'
    cases h'
    exact h rfl
   refine⟨xs,df.of ha,fz (fun h2=>⟨h1,kb (fun n hn=>absurd hn (no (by omega) n)) H (aq.refl H)⟩) fun h2=>?_⟩
   obtain⟨x0,x1,rfl⟩:∃ x0 x1,xs=[x0,x1]:=by
    match xs,h2 with
    | [],h=>simp at h
    | [_],h=>simp at h
    | [x0,x1],_=>exact⟨x0,x1,rfl⟩
    | _::_::_::r,h=>simp at h;omega
   have tx:∀ n,ka H (.ref a) n→x0=.str n.1∧x1=.int n.2:=fun n ⟨a',e',h'⟩=>by
    cases e'
    rw[ha] at h'
    simp at h'
    exact h'
   refine⟨_,df.of ha,x0,rfl,x0,rfl,t.2 a _ rfl ha x0 (by simp),fun H1 s1=>⟨_,rfl,fz (fun hm=>⟨h1,kb (fun n hn=>?_) H1 s1⟩) fun hm=>?_⟩⟩
   ·obtain⟨e0,_⟩:=tx n hn
    subst e0
    rintro⟨m1,_⟩
    exact absurd m1 (by rw[show d6 n.1=false from hm];decide)
   ·refine⟨_,df.of (s1 _ _ ha),x1,rfl,x1,rfl,(t.2 a _ rfl ha x1 (by simp)).same s1,_,rfl,fz (fun hw=>⟨h1,kb (fun n hn=>?_) H1 s1⟩) fun hw=>?_⟩
    ·obtain⟨_,e1⟩:=tx n hn
     subst e1
     cases hw
    ·obtain⟨m,e0⟩:∃ m,x0=.str m:=by
      cases x0 with
      | str m=>exact⟨m,rfl⟩
      | _=>exact absurd rfl hm
     obtain⟨k,e1⟩:∃ k,x1=.int k:=by
      cases x1 with
      | int k=>exact⟨k,rfl⟩
      | _=>exact absurd rfl hw
     subst e0 e1
     have Lk:d6 m=true:=by
      cases q:d6 m
      ·exact absurd q hm
      ·rfl
     refine⟨_,df.of (s1 _ _ ha),.int k,rfl,k,rfl,fz (fun h0=>⟨k,rfl,fz (fun h3=>⟨h1,kb (fun n hn=>?_) H1 s1⟩) fun h3=>?_⟩) fun h0=>⟨h1,kb (fun n hn=>?_) H1 s1⟩⟩
     ·obtain⟨_,e1⟩:=tx n hn
      cases e1
      rintro⟨_,_,z⟩
      exact h3 z
     ·exact kg (m,k) ⟨a,rfl,ha⟩ Lk h0 (by omega) H1 s1
     ·obtain⟨_,e1⟩:=tx n hn
      cases e1
      rintro⟨_,z,_⟩
      exact h0 z
  ·refine fz (fun _=>⟨h1,kb (fun n hn=>?_) H (aq.refl H)⟩) fun z=>absurd rfl z
   obtain⟨a,e,h⟩:=hn
   exact absurd h (hb a _ e)
theorem DN {f:Addr}{fd:FuncData} (D:Def K mg "check_nodes" mf ["nodes"] f fd) (T:Txt K mg ad) {dX:Addr}{eX:FuncData} (gN:av P w K mg base (oP P w) 1 dX eX ["thing","most"] (mq ad)) {jJ:Addr}{pP:FuncData} (vD:av P w K mg base (oP P w) 2 jJ pP ["node","deepest"] (tW ad)) (cI:Def K mg "check_list" jy ["thing","most"] dX eX) (lN:Def K mg "check_node" nO ["node","deepest"] jJ pP):av P w K mg base (oP P w) 3 f fd ["nodes"] (rK ad):=by
 refine D.F.MJ nV (fun vs H Q E h=>?_) (fun gJ A outer s H vs Q E hr h=>?_)
 ·obtain⟨v,rfl,_⟩:=h
  rfl
 ·obtain⟨v,rfl,t,kg,kb⟩:=h
  obtain⟨yQ,Gv⟩:=T.nZ
  obtain⟨DO,ME⟩:=T.uL
  refine⟨_,(@ah _ _ _ _ _ (dk (aT gN (hr.mono (by decide)) rfl cI.mg cI.F.kp cI.b .nil sU (ae (pv 0) (ae (uW (v:=.int 40) rfl Gv ⟨_,rfl⟩) af))))
   (@ah _ _ _ _ _ (aP (i:=1) nV.nd rfl (Or.inl rfl) aj)
   (@ai _ _ _ (fZ PassesOwn.leaving rfl (dU (pv 0)) (aZ (i:=2) nV.nd rfl (Or.inl rfl))
   (@ah _ _ _ _ _ (dk (aT vD (hr.mono (by decide)) rfl lN.mg lN.F.kp lN.b .nil sU (ae (pv 2) (ae (pv 1) af))))
   (@ai _ _ _ (aP (i:=1) nV.nd rfl (Or.inl rfl) (aS (yv rfl) rfl T.min (by decide +kernel) (ae (aI dF (bo cT (pv 2) aj (fun _ _=>rfl)) aj) (ae (uW (v:=.int 12) rfl ME ⟨_,rfl⟩) af)))))))))),?_⟩
  and_intros
  refine⟨v,40,rfl,t.1,fun hg=>?_,fun hb=>kb (fun⟨a,xs,ns,e,h,l,_⟩=>hb ⟨a,xs,e,h,l⟩) H (aq.refl H)⟩
  obtain⟨a,xs,rfl,ha,hl⟩:=hg
  refine⟨_,rfl,a,rfl,⟨_,bA.of ha⟩,jQ (xs:=xs) (fun i σ H'=>aq H H'∧∃ (ns:List Nd) (o:Option V),aO H (xs.take i) ns∧dG 0 ns∧bx σ [some (.ref a),some (.int (gn 0 ns)),o]) ⟨aq.refl H,[],none,by simp [aO],trivial,bx.rfl⟩ ?_ ?_ ?_⟩
  ·rintro i σ H' _ ⟨s1,_⟩
   exact bA.of (s1 _ _ ha)
  ·rintro i x σ H' hx ⟨s1,ns,o,hn,hd,rfl⟩
   and_intros
   have tx:=t.2 a xs rfl ha x (List.mem_of_getElem? hx)
   have ex:xs.take (i+1)=xs.take i++[x]:=by rw[List.take_add_one,hx];rfl
   refine⟨x,_,rfl,tx.same s1,fun n UY m1 m2 m3 H2 s2=>?_,fun hb H2 s2=>kb ?_ H2 (s1.trans s2)⟩
   ·have Zm:=UY.back tx.1 s1
    obtain⟨tt,e,h2⟩:=UY
    subst e
    and_intros
    refine⟨_,df.of (s2 _ _ h2),_,rfl,_,rfl,s1.trans s2,ns++[n],?_,?_,some (.ref tt),?_⟩
    ·rw[ex];exact hn.append ⟨Zm,trivial⟩
    ·exact gb.mpr ⟨hd,m1,m2,m3,trivial⟩
    ·have e:gn 0 (ns++[n])=if 12<n.2+1 then 12 else n.2+1:=by
      rw[ja]
      show min (n.2+1) 12=_
      split<;>omega
     rw[e]
     exact bx.rfl
   ·have e:xs=xs.take i++x::xs.drop (i+1):=by
     have h:=List.take_append_drop (i+1) xs
     rw[ex,List.append_assoc] at h
     exact h.symm
    rw[e] at ha
    exact Nq ha hn fun n RM=>hb n (RM.same s1)
  ·rintro σ H' ⟨s1,ns,o,hn,hd,rfl⟩
   rw[List.take_length] at hn
   exact kg ⟨a,xs,ns,rfl,ha,hl,hn,hd⟩ H' s1
theorem DP {f:Addr}{fd:FuncData} (D:Def K mg "check_lines" mh ["lines"] f fd) (T:Txt K mg ad) {dX:Addr}{eX:FuncData} (gN:av P w K mg base (oP P w) 1 dX eX ["thing","most"] (mq ad)) {eY:Addr}{ic:FuncData} (j5:av P w K mg base (oP P w) 2 eY ic ["marks","most"] (n9 ad)) (cI:Def K mg "check_list" jy ["thing","most"] dX eX) (eK:Def K mg "check_marks" jW ["marks","most"] eY ic):av P w K mg base (oP P w) 3 f fd ["lines"] (rL ad):=by
 refine D.F.MJ xl (fun vs H Q E h=>?_) (fun gJ A outer s H vs Q E hr h=>?_)
 ·obtain⟨v,rfl,_⟩:=h
  rfl
 ·obtain⟨v,rfl,t,kg,kb⟩:=h
  obtain⟨yR,Gw⟩:=T.n5
  obtain⟨wt,DQ⟩:=T.kI
  refine⟨_,(@ah _ _ _ _ _ (dk (aT gN (hr.mono (by decide)) rfl cI.mg cI.F.kp cI.b .nil sU (ae (pv 0) (ae (uW (v:=.int 12) rfl Gw ⟨_,rfl⟩) af))))
   (@ai _ _ _ (fZ PassesOwn.leaving rfl (dU (pv 0)) (aZ (i:=1) xl.nd rfl (Or.inl rfl))
   (@ah _ _ _ _ _ (dk (aT j5 (hr.mono (by decide)) rfl eK.mg eK.F.kp eK.b .nil sU (ae (pv 1) (ae (uW (v:=.int 12) rfl DQ ⟨_,rfl⟩) af))))
   (@ai _ _ _ (cE (aL Pp (aS bE rfl T.len PySem.boot_len (ae (pv 1) af)) (aS bE rfl T.len PySem.boot_len (ae (bo cx (pv 0) aj (fun _ _=>rfl)) af)) (aQ _))
   (@ai _ _ _ (nM T.oY rfl qM rfl (ae bI af)))
   aV)))))),?_⟩
  and_intros
  refine⟨v,12,rfl,t.1,fun hg=>?_,fun hb=>kb (fun⟨a,xs,ns,e,h,l,_⟩=>hb ⟨a,xs,e,h,l⟩) H (aq.refl H)⟩
  obtain⟨a,xs,rfl,ha,hl⟩:=hg
  refine⟨_,rfl,a,rfl,⟨_,bA.of ha⟩,jQ (xs:=xs) (fun i σ H'=>aq H H'∧∃ (ls:List (List V)) (o:Option V),aN .lst H (xs.take i) ls∧BY ls∧bx σ [some (.ref a),o]) ⟨aq.refl H,[],none,by simp [aN],⟨0,Nat.zero_le _,fun _ z=>nomatch z⟩,bx.rfl⟩ ?_ ?_ ?_⟩
  ·rintro i σ H' _ ⟨s1,_⟩
   exact bA.of (s1 _ _ ha)
  ·rintro i x σ H' hx ⟨s1,ls,o,hn,hd,rfl⟩
   and_intros
   have xm:=List.mem_of_getElem? hx
   have tx:=t.2 a xs rfl ha x xm
   have ex:xs.take (i+1)=xs.take i++[x]:=by rw[List.take_add_one,hx];rfl
   refine⟨x,12,rfl,tx.same s1,fun hg H2 s2=>?_,fun hb H2 s2=>kb ?_ H2 (s1.trans s2)⟩
   ·obtain⟨c,ys,rfl,hc,RO,RT⟩:=hg
    have Lq:=tx.1.back s1 rfl hc
    have Bh:=s1.trans s2
    have RM:aN .lst H (xs.take (i+1)) (ls++[ys]):=by rw[ex];exact hn.append ⟨⟨c,rfl,Lq⟩,trivial⟩
    have hi:i<xs.length:=(List.getElem?_eq_some_iff.mp hx).1
    have h0:(xs.take (i+1))[0]? = some xs[0]:=by rw[List.getElem?_take_of_lt (by omega)];exact List.getElem?_eq_getElem (by omega)
    obtain⟨y0,Zn,c0,UZ,TY⟩:=RM.get h0
    and_intros
    refine⟨_,bA.of (Bh _ _ Lq),_,bA.of (Bh _ _ ha),xs[0],bT (j:=0) (List.getElem?_eq_getElem (by omega)),c0,UZ,_,bA.of (Bh _ _ TY),fz (fun sN=>?_) fun heq=>?_⟩
    ·refine⟨by decide,kb (Nv ha (b:=xs[0]) (c:=.ref c) (List.getElem_mem _) xm ⟨c0,UZ,TY⟩ ⟨c,rfl,Lq⟩ ?_) H2 Bh⟩
     intro z
     exact sN (by rw[z])
    ·refine⟨Bh,ls++[ys],RM,?_,some (.ref c),bx.rfl⟩
     have WE:ys.length=y0.length:=by
      by_cases z:ys.length=y0.length
      ·exact z
      ·exact absurd (fun q=>z (by omega)) heq
     cases ls with
     | nil=>exact⟨ys.length,RO,fun l h=>by rw[List.mem_singleton.mp h];exact⟨rfl,RT⟩⟩
     | cons l0 r =>
      have e0:l0=y0:=by simpa using Zn
      subst e0
      obtain⟨w,hw,FL⟩:=hd
      refine⟨w,hw,fun l h=>?_⟩
      rcases List.mem_append.mp h with h | h
      ·exact FL l h
      ·rw[List.mem_singleton.mp h]
       exact⟨WE.trans (FL l0 List.mem_cons_self).1,RT⟩
   ·exact Nu ha xm fun g=>hb (wU.same s1 g)
  ·rintro σ H' ⟨s1,ls,o,hn,hd,rfl⟩
   rw[List.take_length] at hn
   exact kg ⟨a,xs,ls,rfl,ha,hl,hn,hd⟩ H' s1
theorem CJ {f:Addr}{fd:FuncData} (D:Def K mg "check_places" hX ["places","many"] f fd) (T:Txt K mg ad) {iS:Addr}{kQ:FuncData} (pk:av P w K mg base bw 1 iS kQ ["thing"] sX) (ib:Def K mg "is_whole" oU ["thing"] iS kQ):av P w K mg base (oP P w) 2 f fd ["places","many"] (jR ad):=by
 refine D.F.MJ mJ (fun vs H Q E h=>?_) (fun gJ A outer s H vs Q E hr h=>?_)
 ·obtain⟨v,m,rfl,_⟩:=h
  rfl
 ·obtain⟨v,m,rfl,t,kg,kb⟩:=h
  obtain⟨y,b,ty,e,hb⟩:=t.1.isList (K:=K)
  refine⟨_,(@ah _ _ _ _ _ (cE (nJ (mS (aS rg rfl T.isinstance PyProof.Rows.boot_isinstance (ae (pv 0) (ae (Fg rfl T.list PyProof.Rows.boot_list) af)))))
   (@ai _ _ _ (nM T.Fo rfl qM rfl (ae bI af)))
   aV)
   (@ah _ _ _ _ _ (aP (i:=2) mJ.nd rfl (Or.inl rfl) aj)
   (@ai _ _ _ (fZ PassesOwn.leaving rfl (dU (pv 0)) (aZ (i:=3) mJ.nd rfl (Or.inl rfl))
   (@ah _ _ _ _ _ (cE (PW.pt (pw_or (nJ (mS (aT pk (hr.mono (by decide)) rfl ib.mg ib.F.kp ib.b .nil aA (ae (pv 3) af)))) (pw_or1 (nJ (C2 Ha wK (pv 2) (pv 3) (pv 1))))))
   (@ai _ _ _ (nM T.Fo rfl qM rfl (ae bI af)))
   aV)
   (@ai _ _ _ (aP (i:=2) mJ.nd rfl (Or.inl rfl) (aI dF (pv 3) aj)))))))),?_⟩
  and_intros
  refine⟨y,ty,b,e,?_⟩
  have h1:1≤sizeLine:=by decide
  rcases hb with ⟨rfl,a,xs,rfl,ha⟩ | ⟨rfl,hb⟩
  ·and_intros
   refine⟨_,rfl,a,rfl,⟨_,bA.of ha⟩,jQ (xs:=xs) (fun i σ H'=>aq H H'∧∃ (ps:List Int) (o:Option V),xs.take i=ps.map V.int∧placesOk 0 m ps∧bx σ [some (.ref a),some (.int m),some (.int (md 0 ps)),o]) ⟨aq.refl H,[],none,by simp,trivial,bx.rfl⟩ ?_ ?_ ?_⟩
   ·rintro i σ H' _ ⟨s1,_⟩
    exact bA.of (s1 _ _ ha)
   ·rintro i x σ H' hx ⟨s1,ps,o,Ex,d4,rfl⟩
    have tx:=t.2 a xs rfl ha x (List.mem_of_getElem? hx)
    have ex:xs=ps.map V.int++x::xs.drop (i+1):=by
     have h:=List.take_append_drop (i+1) xs
     rw[List.take_add_one,hx,List.append_assoc,Ex] at h
     exact h.symm
    have no:(∀ q,x=.int q→¬ (md 0 ps≤q∧q<m))→¬ yM m H (.ref a):=fun h=>Ny (by rw[←ex];exact ha) h
    and_intros
    refine⟨x,rfl,tx.same s1,_,rfl,fz (fun hw=>⟨h1,kb (no fun q e=>?_) H' s1⟩) fun hw=>?_⟩
    ·subst e;cases hw
    ·obtain⟨q,rfl⟩:∃ q,x=.int q:=by
      cases x with
      | int q=>exact⟨q,rfl⟩
      | _=>exact absurd rfl hw
     refine⟨q,rfl,fz (fun h0=>⟨q,rfl,fz (fun h2=>⟨h1,kb (no fun q' e z=>?_) H' s1⟩) fun h2=>⟨q,rfl,s1,ps++[q],?_,?_,some (.int q),?_⟩⟩) fun h0=>⟨h1,kb (no fun q' e z=>?_) H' s1⟩⟩
     ·cases e;exact h2 z.2
     ·rw[List.take_add_one,hx,Ex,List.map_append];rfl
     ·exact mI.mpr ⟨d4,h0,by omega,trivial⟩
     ·rw[wk];exact bx.rfl
     ·cases e;exact h0 z.1
   ·rintro σ H' ⟨s1,ps,o,Ex,d4,rfl⟩
    rw[List.take_length] at Ex
    exact kg ⟨a,ps,rfl,by rw[←Ex];exact ha,d4⟩ H' s1
  ·and_intros
   refine⟨h1,kb (fun⟨a,ps,e,h,_⟩=>hb a _ e h) H (aq.refl H)⟩
theorem ER {f:Addr}{fd:FuncData} (F:qL K "__init__" "Thing.__init__" vf f fd) (T:Txt K mg ad):av P w K mg base bw 1 f fd ["self","spot_marks"] (mn ad):=by
 refine F.ok EE (fun vs H Q E h=>?_) (fun gJ A outer s H vs Q E hr h=>?_)
 ·obtain⟨p,dx,a,xs,c,rfl,_⟩:=h
  rfl
 ·obtain⟨p,dx,a,xs,c,rfl,hc,hp,ha,k⟩:=h
  refine⟨_,(@ai _ _ _ (qu (pv 0) (fw Mi rfl T.tuple PyProof.Rows.boot_tuple (ae (pv 1) af)) rfl)),?_⟩
  and_intros
  refine⟨_,bA.of ha,fun t o ht E3 Pf=>?_⟩
  rcases hc with rfl | rfl | rfl
  ·refine⟨ad.Row,dx,[],?_,T.fF,T.gp,by decide,?_⟩
   ·rw[aF (aG hp ht)];exact hp
   ·exact k t o ht E3 Pf
  ·refine⟨ad.Table,dx,[],?_,T.bz,T.lZ,by decide,?_⟩
   ·rw[aF (aG hp ht)];exact hp
   ·exact k t o ht E3 Pf
  ·refine⟨ad.cF,dx,[],?_,T.aU,T.gf,by decide,?_⟩
   ·rw[aF (aG hp ht)];exact hp
   ·exact k t o ht E3 Pf
theorem IA {f:Addr}{fd:FuncData} (F:qL K "__init__" "Row.__init__" ze f fd) (T:Txt K mg ad) {eY:Addr}{ic:FuncData} (j5:av P w K mg base (oP P w) 2 eY ic ["marks","most"] (n9 ad)) {dY:Addr}{eZ:FuncData} (gO:av P w K mg base bw 1 dY eZ ["self","spot_marks"] (mn ad)) (eK:Def K mg "check_marks" jW ["marks","most"] eY ic) (gP:Binds K eZ ["self","spot_marks"] []) (fV:Np K ad.Thing "__init__" dY):av P w K mg base (oP P w) 3 f fd ["self","marks"] (sY ad):=by
 refine F.MJ Ib (fun vs H Q E h=>?_) (fun gJ A outer s H vs Q E hr h=>?_)
 ·obtain⟨p,dx,v,rfl,_⟩:=h
  rfl
 ·obtain⟨p,dx,v,rfl,hp,t,kg,kb⟩:=h
  obtain⟨xD,ES⟩:=T.ml
  refine⟨_,(@ah _ _ _ _ _ (dk (aT j5 (hr.mono (by decide)) rfl eK.mg eK.F.kp eK.b .nil sU (ae (pv 1) (ae (uW (v:=.int 40) rfl ES ⟨_,rfl⟩) af))))
   (@ai _ _ _ (dk (FQ rfl T.F7 fV gO (hr.mono (by decide)) gP .nil aA (ae (pv 0) (ae (pv 1) af)))))),?_⟩
  and_intros
  refine⟨v,40,rfl,t,fun hg H1 s1=>?_,fun hb H1 s1=>kb hb H1 fun b o _ e=>s1 b o e⟩
  obtain⟨a,xs,rfl,ha,hl,hm⟩:=hg
  refine⟨p,dx,a,xs,ad.Row,rfl,.inl rfl,s1 _ _ hp,s1 _ _ ha,fun t1 oo ht E3 Pf=>?_⟩
  refine kg a xs rfl ha hl hm _ ⟨dx,t1,ag,?_,hm,hl⟩ fun b o hb e=>?_
  ·exact⟨oo,by rw[aF (Ne.symm (aG (s1 _ _ hp) ht)),ag],E3,Pf⟩
  ·rw[aF hb,aF (aG (s1 _ _ e) ht)]
   exact s1 _ _ e
theorem IB {f:Addr}{fd:FuncData} (F:qL K "many" "Row.many" zf f fd) (T:Txt K mg ad):av P w K mg base bw 1 f fd ["self"] (xp ad):=by
 refine F.ok Ic (fun vs H Q E h=>?_) (fun gJ A outer s H vs Q E hr h=>?_)
 ·obtain⟨p,xs,rfl,_⟩:=h
  rfl
 ·obtain⟨p,xs,rfl,⟨dx,t,h1,h2,_⟩,k⟩:=h
  refine⟨_,(@ai _ _ _ (aK (aS uH rfl T.len PySem.boot_len (ae (bt (pv 0) rfl) af)))),?_⟩
  and_intros
  exact⟨ad.Row,dx,_,h1,T.fF,T.gp,.ref t,rfl,t,rfl,xs,h2.sq,k⟩
theorem IC {f:Addr}{fd:FuncData} (F:qL K "left" "Row.left" zg f fd) (T:Txt K mg ad) {cL:Addr}{dR:FuncData} (fu:av P w K mg base (oP P w) 2 cL dR ["places","many"] (jR ad)) {m8:Addr}{tq:FuncData} (zy:av P w K mg base bw 1 m8 tq ["self"] (xp ad)) {iT:Addr}{kR:FuncData} (pq:av P w K mg base (oP P w) 3 iT kR ["self","marks"] (sY ad)) {fI:Addr}{gT:FuncData} (jE:av P w K mg base bw 1 fI gT ["marks","places"] (qc K)) (bR:Def K mg "check_places" hX ["places","many"] cL dR) (d5:Def K mg "marks_at" kE ["marks","places"] fI gT) (zA:Binds K tq ["self"] []) (px:Binds K kR ["self","marks"] []) (xE:Meth K ad.Row "many" m8) (Fw:Mk K ad.Row iT):av P w K mg base (oP P w) 5 f fd ["self","places"] (qd ad):=by
 refine F.MJ Ie (fun vs H Q E h=>?_) (fun gJ A outer s H vs Q E hr h=>?_)
 ·obtain⟨p,v,xs,rfl,_⟩:=h
  rfl
 ·obtain⟨p,v,xs,rfl,hp,t,kg,kb⟩:=h
  refine⟨_,(@ah _ _ _ _ _ (dk (aT fu (hr.mono (by decide)) rfl bR.mg bR.F.kp bR.b .nil sU (ae (pv 1) (ae (eo (pv 0) T.fF xE zy (hr.mono (by decide)) zA .nil aA) af))))
   (@ai _ _ _ (aK (ke Fw pq (hr.mono (by decide)) rfl T.PQ px .nil sU (ae (aT jE (hr.mono (by decide)) rfl d5.mg d5.F.kp d5.b .nil aA (ae (bt (pv 0) rfl) (ae (pv 1) af))) af))))),?_⟩
  obtain⟨dx,t1,h1,h2,h3,h4⟩:=id hp
  and_intros
  refine⟨dx,_,h1,rfl,p,xs,rfl,hp,v,_,rfl,t,fun hg H1 s1=>?_,fun hb H1 s1=>kb hb H1 s1⟩
  obtain⟨a,ps,rfl,ha,d4⟩:=hg
  have Rk:=places_len d4 (by omega)
  refine⟨ad.Row,dx,_,s1 _ _ h1,T.fF,T.gp,.ref t1,rfl,?_⟩
  refine⟨t1,a,xs,ps,rfl,(h2.same s1).sq,s1 _ _ ha,ck d4,by omega,fun l hl x6 N4 hx vp sN=>?_⟩
  have pm:∀ i∈ps,markV (xs.getD i.toNat .cU)=true:=fun i hi=>by
   obtain⟨i0,i1⟩:=ck d4 i hi
   have qt:i.toNat<xs.length:=by omega
   rw[List.getD_eq_getElem?_getD,List.getElem?_eq_getElem qt,Option.getD_some]
   exact List.all_eq_true.mp h3 _ (List.getElem_mem qt)
  have am:(ps.map fun i=>xs.getD i.toNat .cU).all markV=true:=by
   rw[List.all_eq_true]
   intro x hx
   obtain⟨i,hi,rfl⟩:=List.mem_map.mp hx
   exact pm i hi
  have lm:(ps.map fun i=>xs.getD i.toNat .cU).length≤40:=by rw[List.length_map];omega
  have Bh:=s1.upd (o:=.lst (ps.map fun i=>xs.getD i.toNat .cU)) hl
  have fl:(upd H1 l (.lst (ps.map fun i=>xs.getD i.toNat .cU))) l=some (.lst (ps.map fun i=>xs.getD i.toNat .cU)):=ag
  generalize (upd H1 l (.lst (ps.map fun i=>xs.getD i.toNat .cU)))=H2 at Bh fl hx vp ⊢
  have A2:aq H2 (upd (upd H2 N4 (.own x6)) x6 (.ins ad.Row N4 [])):=(aq.put vp).upd (by rw[aF (Ne.symm sN)];exact hx)
  have Rp:=A2 l _ fl
  refine⟨x6,N4,.ref l,rfl,ag,Ai Rp (Dh am),fun a' GZ e h yH Lk H8 IE sb=>⟨rfl,?_⟩,fun hb=>absurd ⟨l,_,rfl,Rp,lm,am⟩ hb⟩
  cases e
  rw[Rp] at h
  cases h
  have Sf:aq H2 H8:=fun b o e=>sb b o (aG e hx) (A2 b o e)
  exact kg a ps rfl ha d4 x6 H8 (Bh.trans Sf) IE
theorem DR {f:Addr}{fd:FuncData} (F:qL K "__init__" "Forest.__init__" pK f fd) (T:Txt K mg ad) {iU:Addr}{oz:FuncData} (uf:av P w K mg base (oP P w) 3 iU oz ["nodes"] (rK ad)) {dY:Addr}{eZ:FuncData} (gO:av P w K mg base bw 1 dY eZ ["self","spot_marks"] (mn ad)) (j6:Def K mg "check_nodes" mf ["nodes"] iU oz) (gP:Binds K eZ ["self","spot_marks"] []) (fV:Np K ad.Thing "__init__" dY):av P w K mg base (oP P w) 4 f fd ["self","nodes"] (n6 ad):=by
 refine F.MJ Dt (fun vs H Q E h=>?_) (fun gJ A outer s H vs Q E hr h=>?_)
 ·obtain⟨p,dx,v,rfl,_⟩:=h
  rfl
 ·obtain⟨p,dx,v,rfl,hp,t,kg,kb⟩:=h
  refine⟨_,(@ah _ _ _ _ _ (dk (aT uf (hr.mono (by decide)) rfl j6.mg j6.F.kp j6.b .nil sU (ae (pv 1) af)))
   (@ah _ _ _ _ _ (dk (FQ rfl T.F7 fV gO (hr.mono (by decide)) gP .nil aA (ae (pv 0) (ae (fP (own:=["node"]) (cap:=[]) (ix:=[]) rfl (show br ["self","nodes"] (ar pK) _ ["node"] [] [] from ⟨rfl,by decide +kernel,by decide +kernel,by decide +kernel,by decide +kernel,by decide +kernel,by decide +kernel,rfl,by decide +kernel⟩) (dU (pv 1)) (fun C s₀ H₀ ex pn=>⟨aZ (i:=0) (show (["node"]:List Str).Nodup by decide +kernel) rfl (Or.inl rfl),fh,(bo (show GX _ (rIxT K) from cT) (pv 0) aj (fun _ _=>rfl))⟩)) af))))
   (@ai _ _ _ (qu (pv 0) (fw oS rfl T.tuple PyProof.Rows.boot_tuple (ae (pv 1) af)) rfl)))),?_⟩
  and_intros
  refine⟨v,rfl,t,fun hg H1 s1=>?_,fun hb H1 s1=>kb hb H1 fun b o _ e=>s1 b o e⟩
  obtain⟨a,xs,ns,rfl,ha,hl,hn,hd⟩:=hg
  and_intros
  refine fi (a:=a) (xs:=xs) (H1:=H1) (fun R r=>⟨_,rfl,a,rfl,⟨_,bA.of (s1 _ _ ha)⟩,r⟩) (fun i ys H'=>H'=H1∧ys=(ns.take i).map fun n=>V.str n.1) ⟨rfl,rfl⟩ (fun i ys H' _ ⟨e,_⟩=>e▸bA.of (s1 _ _ ha)) ?_ ?_
  ·rintro i x ys H' R hx ⟨rfl,rfl⟩ hR
   obtain⟨n,en,z4⟩:=hn.get hx
   obtain⟨tt,e,h2⟩:=z4
   subst e
   simp only[wQ]
   and_intros
   refine⟨_,df.of (s1 _ _ h2),_,rfl,?_,hR _ _ ⟨rfl,?_⟩⟩
   ·rw[List.length_map,List.length_take];exact ay (by have:=hn.length;omega)
   ·rw[List.take_add_one,en,List.map_append];rfl
  ·rintro ys H' ⟨rfl,rfl⟩
   have hlen:=hn.length
   rw[hlen,List.take_length]
   refine⟨by rw[List.length_map];exact Nat.le_of_lt (ay (by omega)),fun l yH=>?_⟩
   have s2:=s1.upd (o:=.lst (ns.map fun n=>V.str n.1)) yH
   refine⟨p,dx,l,_,ad.cF,rfl,.inr (.inr rfl),s2 _ _ hp,ag,fun t1 oo JL E3 Pf=>?_⟩
   have s3:=s2.upd (o:=.yE oo (.tup (ns.map fun n=>V.str n.1))) JL
   have sb:∀ o,SameBut p H (upd (upd (upd H' l (.lst (ns.map fun n=>V.str n.1))) t1 (.yE oo (.tup (ns.map fun n=>V.str n.1)))) p o):=fun o b u hb e=>by rw[aF hb];exact s3 _ _ e
   have Zo:a≠p:=uE ha hp (fun z=>nomatch z)
   refine⟨xs,bA.of (sb _ a _ Zo ha),fun t2 IL=>⟨ad.cF,dx,[("spot_marks",.ref t1)],?_,T.aU,T.gy,by show 1<1000;decide,?_⟩⟩
   ·rw[aF (aG ag IL)];exact ag
   ·rw[Li (by decide +kernel)]
    have WG:t2≠p:=Ne.symm (aG ag IL)
    have T1:t1≠p:=Ne.symm (aG (s2 _ _ hp) JL)
    have XT:∀ o,(upd (upd (upd H' l (.lst (ns.map fun n=>V.str n.1))) t1 (.yE oo (.tup (ns.map fun n=>V.str n.1)))) p o) t1=some (.yE oo (.tup (ns.map fun n=>V.str n.1))):=fun o=>by rw[aF T1];exact ag
    have sF:∀ o,SameBut p H (upd (upd (upd (upd (upd H' l (.lst (ns.map fun n=>V.str n.1))) t1 (.yE oo (.tup (ns.map fun n=>V.str n.1)))) p (.ins ad.cF dx [("spot_marks",.ref t1)])) t2 (.tup xs)) p o):=fun o b u hb e=>by
     rw[aF hb,aF (aG (sb _ b u hb e) IL)]
     exact sb _ b u hb e
    refine kg a xs ns rfl ha hl hn hd _ ⟨dx,t1,t2,xs,ag,?_,?_,?_⟩ (sF _)
    ·exact⟨oo,by rw[aF T1,aF (aG (XT _) IL)];exact XT _,E3,Pf⟩
    ·rw[aF WG];exact ag
    ·exact hn.iz fun b ys e=>sF _ b _ (uE e hp (fun z=>nomatch z)) e
theorem DS {f:Addr}{fd:FuncData} (F:qL K "left" "Forest.left" pL f fd) (T:Txt K mg ad) {cL:Addr}{dR:FuncData} (fu:av P w K mg base (oP P w) 2 cL dR ["places","many"] (jR ad)) {cY:Addr}{eG:FuncData} (fQ:av P w K mg base bw 1 cY eG ["self"] (Au ad)) {fb:Addr}{ie:FuncData} (j7:av P w K mg base (oP P w) 4 fb ie ["self","nodes"] (n6 ad)) (bR:Def K mg "check_places" hX ["places","many"] cL dR) (fR:Binds K eG ["self"] []) (j8:Binds K ie ["self","nodes"] []) (fj:Meth K ad.cF "many" cY) (uN:Mk K ad.cF fb):av P w K mg base (oP P w) 6 f fd ["self","places"] (kL ad):=by
 refine F.MJ gd (fun vs H Q E h=>?_) (fun gJ A outer s H vs Q E hr h=>?_)
 ·obtain⟨p,v,ns,rfl,_⟩:=h
  rfl
 ·obtain⟨p,v,ns,rfl,hp,hd,hl,t,kg,kb⟩:=h
  have hu:=hr.units
  refine⟨_,(@ah _ _ _ _ _ (dk (aT fu (hr.mono (by decide)) rfl bR.mg bR.F.kp bR.b .nil sU (ae (pv 1) (ae (eo (pv 0) T.aU fj fQ (hr.mono (by decide)) fR .nil aA) af))))
   (@ah _ _ _ _ _ (aP (i:=2) gd.nd rfl (Or.inl rfl) (fw (Jp rfl) rfl T.dict PyProof.Rows.boot_dict (ae (fP (own:=["place"]) (cap:=[]) (ix:=[]) rfl (show br ["self","places","kept","rest","above","place","node","depth"] (ar pL) _ ["place"] [] [] from ⟨rfl,by decide +kernel,by decide +kernel,by decide +kernel,by decide +kernel,by decide +kernel,by decide +kernel,rfl,by decide +kernel⟩) (dU (pv 1)) (fun C s₀ H₀ ex pn=>⟨aZ (i:=0) (show (["place"]:List Str).Nodup by decide +kernel) rfl (Or.inl rfl),fh,(i9 (ae (pv 0) (ae jP af)))⟩)) af)))
   (@ah _ _ _ _ _ (aP (i:=3) gd.nd rfl (Or.inl rfl) (gK af))
   (@ah _ _ _ _ _ (aP (i:=4) gd.nd rfl (Or.inl rfl) (gK (ae aj af)))
   (@ah _ _ _ _ _ (fZ PassesOwn.leaving rfl (Hx rfl T.enumerate (ae (bt (pv 0) rfl) af)) (MU (n:=2) rfl (Aa (aZ (i:=5) gd.nd rfl (Or.inl rfl)) (Aa (aZ (i:=6) gd.nd rfl (Or.inl rfl)) K3)))
   (@ah _ _ _ _ _ (aP (i:=4) gd.nd rfl (Or.inl rfl) (ky sR (pv 4) pI (mH (aI dF (bo cT (pv 6) aj (fun _ _=>rfl)) aj))))
   (@ah _ _ _ _ _ (aP (i:=7) gd.nd rfl (Or.inl rfl) (bo cx (pv 4) (Ad uX aj) (fun _ _=>rfl)))
   (@ai _ _ _ (cE (Qk (Q0 (Y5 hu) (pv 5) (pv 2)))
   (@ah _ _ _ _ _ (dk (qI PySem.F.plainAttrs_list PySem.F.slot_list_append PySem.F.type_list_append gk (pv 3) (ae (i9 (ae (bo cT (pv 6) aj (fun _ _=>rfl)) (ae (pv 7) af))) af)))
   (@ai _ _ _ (dk (qI PySem.F.plainAttrs_list PySem.F.slot_list_append PySem.F.type_list_append gk (pv 4) (ae (aI dF (pv 7) aj) af)))))
   (@ai _ _ _ (dk (qI PySem.F.plainAttrs_list PySem.F.slot_list_append PySem.F.type_list_append gk (pv 4) (ae (pv 7) af)))))))))
   (@ai _ _ _ (aK (ke uN j7 (hr.mono (by decide)) rfl T.Ih j8 .nil sU (ae (pv 3) af))))))))),?_⟩
  obtain⟨dx,t1,t2,xs,h1,h2,h3,h4⟩:=id hp
  refine ak fun B hB=>?_
  and_intros
  refine⟨dx,_,h1,cX (by decide +kernel) (by decide +kernel),p,ns,rfl,hp,v,_,rfl,t,fun hg H1 s1=>?_,fun hb H1 s1=>kb hb H1 s1⟩
  obtain⟨a,ps,rfl,ha,d4⟩:=hg
  have Rk:=places_len d4 (by omega)
  subst hB
  refine ak fun B hB=>?_
  and_intros
  refine fi (a:=a) (xs:=ps.map V.int) (H1:=H1) (fun R rr=>⟨_,rfl,a,rfl,⟨_,bA.of (s1 _ _ ha)⟩,rr⟩) (fun i ys H'=>aq H1 H'∧aN .tup H' ys ((ps.take i).map fun q=>[V.int q,V.bl true])) ⟨aq.refl _,trivial⟩ (fun i ys H' _ ⟨e,_⟩=>bA.of (e _ _ (s1 _ _ ha))) ?_ ?_
  ·rintro i x ys H' R hx ⟨s2,hy⟩ hR
   rw[List.getElem?_map] at hx
   obtain⟨q,eq,rfl⟩:=Option.map_eq_some_iff.mp hx
   simp only[wQ]
   and_intros
   refine⟨by decide,fun u Ts=>⟨?_,hR _ _ ⟨s2.upd Ts,?_⟩⟩⟩
   ·rw[hy.length,List.length_map,List.length_take];exact ay (by omega)
   ·rw[List.take_add_one,eq,List.map_append]
    exact (hy.same (aq.put Ts)).append ⟨⟨u,rfl,ag⟩,trivial⟩
  ·rintro ys H' ⟨s2,hy⟩
   rw[show (ps.map V.int).length=ps.length from List.length_map _,List.take_length] at hy
   have QQ:ys.length=ps.length:=by rw[hy.length,List.length_map]
   refine⟨Nat.le_of_lt (ay (by omega)),fun D hD=>?_⟩
   have s3:=s1.trans (s2.upd (o:=.lst ys) hD)
   have XU:=hy.same (aq.put (o:=.lst ys) hD)
   have fD:(upd H' D (.lst ys)) D=some (.lst ys):=ag
   generalize (upd H' D (.lst ys))=H3 at s3 XU fD ⊢
   refine⟨D,rfl,ys,bA.of fD,ps.map (fun q=>((Sum.inl q:Key),V.bl true)),by rw[List.length_map,QQ],by rw[List.length_map];omega,fun j y pr e1 e2=>?_,fun d O1=>?_⟩
   ·obtain⟨n,e3,u,e4,h5⟩:=XU.get e1
    rw[List.getElem?_map] at e2 e3
    obtain⟨q,eq,rfl⟩:=Option.map_eq_some_iff.mp e2
    rw[eq] at e3
    cases e3
    exact⟨u,e4,h5⟩
   have UI:∀ j:Int,(qx ((ps.map fun q=>((Sum.inl q:Key),V.bl true)).foldl (fun a p=>putK a p.1 p.2) []) (Sum.inl j)).isSome=decide (j∈ps):=fun j=>by rw[NF];simp [qx]
   generalize ((ps.map fun q=>((Sum.inl q:Key),V.bl true)).foldl (fun a p=>putK a p.1 p.2) [])=cR at UI ⊢
   have s4:=s3.upd (o:=.dK cR) O1
   have XW:(upd H3 d (.dK cR)) d=some (.dK cR):=ag
   generalize (upd H3 d (.dK cR))=H4 at s4 XW ⊢
   subst hB
   refine ak fun B hB=>?_
   and_intros
   refine⟨by decide,fun r1 XX=>?_⟩
   subst hB
   refine ak fun B hB=>?_
   and_intros
   refine⟨by decide,fun a1 T2=>?_⟩
   subst hB
   refine ak fun B hB=>?_
   and_intros
   have nr:a1≠r1:=fun z=>by rw[z,ag] at T2;cases T2
   have Zp:H4 a1=none:=by rw[aF nr] at T2;exact T2
   have WH:aq H4 (upd (upd H4 r1 (.lst [])) a1 (.lst [.int 0])):=(aq.put XX).upd T2
   have f1:(upd (upd H4 r1 (.lst [])) a1 (.lst [.int 0])) r1=some (.lst []):=by rw[aF (Ne.symm nr)];exact ag
   have f2:(upd (upd H4 r1 (.lst [])) a1 (.lst [.int 0])) a1=some (.lst [.int 0]):=ag
   generalize (upd (upd H4 r1 (.lst [])) a1 (.lst [.int 0]))=H5 at WH f1 f2 ⊢
   have s5:=s4.trans WH
   refine⟨_,rfl,p,ad.cF,dx,_,.ref t2,rfl,s5 _ _ h1,T.aU,T.gy,u7 (by decide +kernel),t2,rfl,⟨_,df.of (s5 _ _ h3)⟩,Mc (xs:=xs) (fun i σ H'=>aq H4 H'∧∃ (rs:List V) (ab:Addr) (o5 o6 o7:Option V),H' r1=some (.lst rs)∧aO H' rs ((below ps i).map (me ns ps))∧H' ab=some (.lst ((qN ps (way (ns.take i))).map V.int))∧H4 ab=none∧ab≠r1∧bx σ [some (.ref p),some (.ref a),some (.ref d),some (.ref r1),some (.ref ab),o5,o6,o7]) ⟨WH,[],a1,none,none,none,f1,?_,f2,Zp,nr,bx.rfl⟩ ?_ ?_ ?_⟩
   ·rw[rz (i:=0) d4 (by omega)];trivial
   ·rintro i σ H' _ ⟨s6,_⟩
    exact df.of (s6 _ _ (s4 _ _ h3))
   ·rintro i x σ H' T' hx ⟨s6,rs,ab,o5,o6,o7,hr,Rq,Q7,WI,Zq,rfl⟩ hT
    obtain⟨n,en,tt,ex,ht⟩:=h4.get hx
    subst ex
    obtain⟨hm,d0,Wa⟩:=CP hd en
    have hi:i<ns.length:=(List.getElem?_eq_some_iff.mp en).1
    have s7:=aq.put (o:=.tup [.int i,.ref tt]) hT
    have fT:(upd H' T' (.tup [.int i,.ref tt])) T'=some (.tup [.int i,.ref tt]):=ag
    generalize (upd H' T' (.tup [.int i,.ref tt]))=H7 at s7 fT ⊢
    refine⟨T',_,rfl,df.of fT,rfl,?_⟩
    and_intros
    have eC:tP ((qN ps (way (ns.take i))).map V.int) none (some (n.2+1))=(qN ps ((way (ns.take i)).take n.2.toNat)).map V.int:=by
     rw[QW (n:=n.2.toNat+1) (by omega),←List.map_take,Md]
    have WJ:=s6.trans s7
    refine⟨_,df.of (WJ _ _ (s4 _ _ ht)),_,rfl,n.2,rfl,_,bA.of (s7 _ _ Q7),fun a2 Rr=>?_⟩
    rw[eC]
    have eW:=p3 en
    have eN:me ns ps (i:Int)=(n.1,((kept ps ((way (ns.take i)).take n.2.toNat)).length:Int)):=by
     unfold me
     rw[Int.toNat_natCast,za en,List.getD_eq_getElem?_getD,en]
     rfl
    have eS:=Me ps ((way (ns.take i)).take n.2.toNat) i
    rw[←eW] at eS
    have lW:((way (ns.take i)).take n.2.toNat).length≤i:=by rw[List.length_take];have:=O3 (ns:=ns) i (by omega);omega
    generalize ((way (ns.take i)).take n.2.toNat)=Wd at eN eS lW ⊢
    have eL:=O5 ps Wd
    have lC:((qN ps Wd).map V.int).length<sizeLine:=by rw[List.length_map,HI];exact ay (by omega)
    have lR:rs.length<sizeLine:=by
     have e1:=Rq.length
     have e2:(below ps i).length≤ps.length:=List.length_filter_le ..
     rw[List.length_map] at e1
     exact ay (by omega)
    generalize Vm:((kept ps Wd).length:Int)=cc at eN eS eL ⊢
    have Sg:r1≠a2:=aG (s7 _ _ hr) Rr
    have T3:H4 a2=none:=aq.none WJ Rr
    have s8:=aq.put (o:=.lst ((qN ps Wd).map V.int)) Rr
    have f8:(upd H7 a2 (.lst ((qN ps Wd).map V.int))) a2=some (.lst ((qN ps Wd).map V.int)):=ag
    generalize (upd H7 a2 (.lst ((qN ps Wd).map V.int)))=H8 at s8 f8 ⊢
    have U0:=WJ.trans s8
    refine⟨_,bA.of f8,_,eL,_,(show Hu H8 d (V.int (i:Int)) _ from Hu.k (k:=Sum.inl (i:Int)) (U0 _ _ XW)),?_⟩
    rw[UI]
    by_cases hk:(i:Int)∈ps
    ·rw[if_pos (decide_eq_true hk)]
     rw[if_pos hk] at eS
     refine⟨.inl ⟨rfl,_,bA.of (s8 _ _ (s7 _ _ hr))⟩,_,df.of (U0 _ _ (s4 _ _ ht)),_,rfl,by decide,fun t3 WK=>?_⟩
     have s9:=aq.put (o:=.tup [.str n.1,.int cc]) WK
     have f9:(upd H8 t3 (.tup [.str n.1,.int cc])) t3=some (.tup [.str n.1,.int cc]):=ag
     generalize (upd H8 t3 (.tup [.str n.1,.int cc]))=H9 at s9 f9 ⊢
     have g2:=s9 _ _ f8
     have gr:=s9 _ _ (s8 _ _ (s7 _ _ hr))
     refine⟨rs,gr,lR,.inl ⟨rfl,_,bA.of (by rw[aF (Ne.symm Sg)];exact g2)⟩,cc,rfl,(qN ps Wd).map V.int,by rw[aF (Ne.symm Sg)];exact g2,lC,fun b o e=>?_,rs++[.ref t3],by rw[aF Sg];exact ag,?_,a2,?_,T3,Ne.symm Sg,_,_,_,bx.rfl⟩
     ·rw[aF (aG e T3),aF (aG e XX)]
      exact s9 _ _ (U0 _ _ e)
     ·have up:∀ b ys,H9 b=some (.tup ys)→(upd (upd H9 r1 (.lst (rs++[.ref t3]))) a2 (.lst ((qN ps Wd).map V.int++[.int (cc+1)]))) b=some (.tup ys):=fun b ys e=>by
       rw[aF (uE e g2 (fun z=>nomatch z)),aF (uE e gr (fun z=>nomatch z))]
       exact e
      rw[va d4,if_pos hk,List.map_append]
      refine aO.append (Rq.iz fun b ys e=>up b ys (s9 _ _ (s8 _ _ (s7 _ _ e)))) ⟨⟨t3,rfl,?_⟩,trivial⟩
      rw[eN]
      exact up _ _ f9
     ·rw[eS,List.map_append]
      exact ag
    ·rw[if_neg (by simp [hk])]
     rw[if_neg hk,Int.add_zero] at eS
     refine⟨.inl ⟨rfl,_,bA.of f8⟩,_,f8,lC,fun b o e=>?_,rs,by rw[aF Sg];exact s8 _ _ (s7 _ _ hr),?_,a2,?_,T3,Ne.symm Sg,_,_,_,bx.rfl⟩
     ·rw[aF (aG e T3)]
      exact U0 _ _ e
     ·rw[va d4,if_neg hk,List.append_nil]
      refine Rq.iz fun b ys e=>?_
      rw[aF (uE (s8 _ _ (s7 _ _ e)) f8 (fun z=>nomatch z))]
      exact s8 _ _ (s7 _ _ e)
     ·rw[eS,List.map_append]
      exact ag
   ·rintro σ H' ⟨s6,rs,ab,o5,o6,o7,hr,Rq,Q7,WI,Zq,rfl⟩
    have ex:xs.length=ns.length:=h4.length
    rw[ex,Fj d4] at Rq
    have Zr:=s4.trans s6
    have hLl:(eU ns ps).length=ps.length:=List.length_map _
    have Zs:rs.length≤40:=by
     have:=Rq.length
     rw[List.length_map] at this
     omega
    have XY:=CQ hd d4
    have n8:∀ n∈eU ns ps,n.1.length≤1000:=fun n h=>by have:=(Aj (nq XY n h).1).2.1;omega
    dsimp only
    subst hB
    and_intros
    intro x6 N4 hx vp sN
    have A2:aq H' (upd (upd H' N4 (.own x6)) x6 (.ins ad.cF N4 [])):=(aq.put vp).upd (by rw[aF (Ne.symm sN)];exact hx)
    have Rt:=A2 _ _ hr
    have Nl:aO _ rs (eU ns ps):=Rq.same A2
    refine⟨x6,N4,.ref r1,rfl,ag,Hq Rt (Nl.Nt n8),fun a' GZ Zt e h yH Lk Et H8 Ru sb=>⟨rfl,?_⟩,fun hb=>absurd ⟨r1,_,_,rfl,Rt,Zs,Nl,XY⟩ hb⟩
    cases e
    rw[Rt] at h
    cases h
    have:=Lk.uniq Nl
    subst this
    have Sf:aq H' H8:=fun b o e=>sb b o (aG e hx) (A2 b o e)
    exact kg a ps rfl ha d4 x6 H8 (Zr.trans Sf) Ru
theorem ET {f:Addr}{fd:FuncData} (F:qL K "__init__" "Table.__init__" qO f fd) (T:Txt K mg ad) {iV:Addr}{oA:FuncData} (ug:av P w K mg base (oP P w) 3 iV oA ["lines"] (rL ad)) {dY:Addr}{eZ:FuncData} (gO:av P w K mg base bw 1 dY eZ ["self","spot_marks"] (mn ad)) (j9:Def K mg "check_lines" mh ["lines"] iV oA) (gP:Binds K eZ ["self","spot_marks"] []) (fV:Np K ad.Thing "__init__" dY):av P w K mg base (oP P w) 4 f fd ["self","lines"] (pN ad):=by
 refine F.MJ tU (fun vs H Q E h=>?_) (fun gJ A outer s H vs Q E hr h=>?_)
 ·obtain⟨p,dx,v,rfl,_⟩:=h
  rfl
 ·obtain⟨p,dx,v,rfl,hp,t,kg,kb⟩:=h
  refine⟨_,(@ah _ _ _ _ _ (dk (aT ug (hr.mono (by decide)) rfl j9.mg j9.F.kp j9.b .nil sU (ae (pv 1) af)))
   (@ah _ _ _ _ _ (aP (i:=2) tU.nd rfl (Or.inl rfl) (gK af))
   (@ah _ _ _ _ _ (fZ PassesOwn.leaving rfl (dU (pv 1)) (aZ (i:=3) tU.nd rfl (Or.inl rfl))
   (@ai _ _ _ (dk (qI PySem.F.plainAttrs_list PySem.F.slot_list_extend PySem.F.type_list_extend L0 (pv 2) (ae (pv 3) af)))))
   (@ah _ _ _ _ _ (dk (FQ rfl T.F7 fV gO (hr.mono (by decide)) gP .nil aA (ae (pv 0) (ae (pv 2) af))))
   (@ah _ _ _ _ _ (qu (pv 0) (fw oS rfl T.tuple PyProof.Rows.boot_tuple (ae (fP (own:=["line"]) (cap:=[]) (ix:=[]) rfl (show br ["self","lines","spot_marks","line"] (ar qO) _ ["line"] [] [] from ⟨rfl,by decide +kernel,by decide +kernel,by decide +kernel,by decide +kernel,by decide +kernel,by decide +kernel,rfl,by decide +kernel⟩) (dU (pv 1)) (fun C s₀ H₀ ex pn=>⟨aZ (i:=0) (show (["line"]:List Str).Nodup by decide +kernel) rfl (Or.inl rfl),fh,(fw (show gH _ (.type "tuple") (rTupL K) from oS) rfl T.tuple PyProof.Rows.boot_tuple (ae (pv 0) af))⟩)) af)) rfl)
   (@ai _ _ _ (qu (pv 0) (MS (M4 (pv 1) (fun _=>rfl)) (aS bE rfl T.len PySem.boot_len (ae (bo cx (pv 1) aj (fun _ _=>rfl)) af)) aj) rfl))))))),?_⟩
  and_intros
  refine⟨v,rfl,t,fun hg H1 s1=>?_,fun hb H1 s1=>kb hb H1 fun b o _ e=>s1 b o e⟩
  obtain⟨a,xs,ls,rfl,ha,hl,hn,hd⟩:=hg
  have hlen:=hn.length
  have XZ:=L8 hd
  have T4:∀ l∈ls,l.length≤12:=fun l h=>by have:=(A5 hd l h).1;have:=Hr hd;omega
  have Df:∀ i,(ls.take i).flatten.length≤144:=fun i=>by
   have h1:=Nx (ls:=ls.take i) fun l h=>T4 l (List.mem_of_mem_take h)
   have h2:(ls.take i).length≤12:=by rw[List.length_take];omega
   omega
  refine⟨by decide,fun sm X0=>?_⟩
  have ss:=aq.put (o:=.lst []) X0
  refine⟨_,rfl,a,rfl,⟨_,bA.of (ss _ _ (s1 _ _ ha))⟩,jQ (xs:=xs) (fun i σ H'=>aq H1 H'∧H' sm=some (.lst (ls.take i).flatten)∧∃ o,bx σ [some (.ref p),some (.ref a),some (.ref sm),o]) ⟨ss,ag,none,bx.rfl⟩ ?_ ?_ ?_⟩
  ·rintro i σ H' _ ⟨s2,_⟩
   exact bA.of (s2 _ _ (s1 _ _ ha))
  ·rintro i x σ H' hx ⟨s2,N5,o,rfl⟩
   obtain⟨l,el,c,ec,hc⟩:=hn.get hx
   subst ec
   and_intros
   have UX:=T4 l (List.mem_of_getElem? el)
   have RO:=Df i
   refine⟨.inl ⟨rfl,_,bA.of N5⟩,_,N5,l,s2 _ _ (s1 _ _ hc),Nat.le_of_lt (ay (by omega)),fun b o e=>?_,?_,_,bx.rfl⟩
   ·rw[aF (aG e X0)];exact s2 b o e
   ·rw[ag,List.take_add_one,el,List.flatten_append];simp
  ·rintro σ H' ⟨s2,N5,o,rfl⟩
   rw[hlen,List.take_length] at N5
   and_intros
   have Bh:=s1.trans s2
   refine⟨p,dx,sm,_,ad.Table,rfl,.inr (.inl rfl),Bh _ _ hp,N5,fun t1 oo JL E3 Pf=>?_⟩
   have T1:t1≠p:=Ne.symm (aG (Bh _ _ hp) JL)
   have X1:(upd (upd H' t1 (.yE oo (.tup ls.flatten))) p (.ins ad.Table dx [("spot_marks",.ref t1)])) p=some (.ins ad.Table dx [("spot_marks",.ref t1)]):=ag
   have X2:(upd (upd H' t1 (.yE oo (.tup ls.flatten))) p (.ins ad.Table dx [("spot_marks",.ref t1)])) t1=some (.yE oo (.tup ls.flatten)):=by rw[aF T1];exact ag
   have Q6:SameBut p H (upd (upd H' t1 (.yE oo (.tup ls.flatten))) p (.ins ad.Table dx [("spot_marks",.ref t1)])):=fun b o hb e=>by rw[aF hb];exact (Bh.upd JL) b o e
   generalize (upd (upd H' t1 (.yE oo (.tup ls.flatten))) p (.ins ad.Table dx [("spot_marks",.ref t1)]))=H2 at X1 X2 Q6 ⊢
   have Rr:=Q6 a _ (uE ha hp (fun z=>nomatch z)) ha
   have LR:aN .lst H2 xs ls:=aN.keep (f:=.lst) (fun b ys (e:H b=some (.lst ys))=>Q6 b _ (uE e hp (fun z=>nomatch z)) e) hn
   refine fi (a:=a) (xs:=xs) (H1:=H2) (fun R r=>⟨_,rfl,a,rfl,⟨_,bA.of Rr⟩,r⟩) (fun i ys H'=>aq H2 H'∧aN .tup H' ys (ls.take i)) ⟨aq.refl _,trivial⟩ (fun i ys H' _ ⟨s,_⟩=>bA.of (s _ _ Rr)) ?_ ?_
   ·rintro i x ys H' R hx ⟨s3,hr⟩ hR
    obtain⟨l,el,c,ec,hc⟩:=LR.get hx
    subst ec
    simp only[wQ]
    and_intros
    refine⟨_,bA.of (s3 _ _ hc),fun q hq=>⟨?_,hR _ _ ⟨s3.upd hq,?_⟩⟩⟩
    ·rw[hr.length,List.length_take];exact ay (by omega)
    ·rw[List.take_add_one,el]
     exact (hr.same (aq.put hq)).append ⟨⟨q,rfl,ag⟩,trivial⟩
   ·rintro ys H' ⟨s3,hr⟩
    rw[hlen,List.take_length] at hr
    refine⟨?_,fun D hD=>?_⟩
    ·rw[hr.length];exact Nat.le_of_lt (ay (by omega))
    and_intros
    refine⟨_,bA.of ag,fun t2 IL=>?_⟩
    have s4:=(s3.upd (o:=.lst ys) hD).upd (o:=.tup ys) IL
    have WL:(upd (upd H' D (.lst ys)) t2 (.tup ys)) t2=some (.tup ys):=ag
    have PY:=hr.same ((aq.put (o:=.lst ys) hD).upd (o:=.tup ys) IL)
    generalize (upd (upd H' D (.lst ys)) t2 (.tup ys))=H4 at s4 WL PY ⊢
    have ML:=s4 _ _ X1
    refine⟨ad.Table,dx,_,ML,T.bz,T.jg,by show 1<1000;decide,?_⟩
    rw[Li (by decide +kernel)]
    have Zu:=s4 _ _ X2
    have WG:t2≠p:=uE WL ML (fun z=>nomatch z)
    have sx:∀ o,SameBut p H4 (upd H4 p o):=fun o b u hb e=>by rw[aF hb];exact e
    have X3:=fun o=>sx o a _ (uE ha hp (fun z=>nomatch z)) (s4 _ _ Rr)
    have T5:∀ o,aN .lst (upd H4 p o) xs ls:=fun o=>aN.keep (f:=.lst) (fun b ys (e:H4 b=some (.lst ys))=>sx o b _ (uE e ML (fun z=>nomatch z)) e) (LR.same s4)
    have fin:∀ cw:Int,cw=(yL ls:Int)→Q .cU (upd (upd H4 p (.ins ad.Table dx [("spot_marks",.ref t1),("lines",.ref t2)])) p (.ins ad.Table dx (oR "columns" (.int cw) [("spot_marks",.ref t1),("lines",.ref t2)]))):=fun cw e=>by
     rw[Te (by decide +kernel) (by decide +kernel),qJ,e]
     refine kg a xs ls rfl ha hl hn hd _ ⟨dx,t1,t2,ys,ag,?_,?_,?_,Hr hd,by omega,A5 hd⟩ fun b o hb e=>?_
     ·exact⟨oo,by rw[aF T1];exact Zu,E3,Pf⟩
     ·rw[aF WG];exact WL
     ·exact aN.keep (f:=.tup) (fun b zs (e:H4 b=some (.tup zs))=>sx _ b _ (uE e ML (fun z=>nomatch z)) e) PY
     ·rw[aF hb];exact s4 _ _ (Q6 b o hb e)
    refine⟨!xs.isEmpty,.inl ⟨xs,bA.of (X3 _),rfl⟩,fz (fun sN=>?_) fun sN=>?_⟩
    ·cases xs with
     | nil=>cases sN
     | cons x0 xr =>
      cases ls with
      | nil=>exact hn.elim
      | cons l0 lr =>
       obtain⟨c0,UZ,Lq⟩:=(T5 (.ins ad.Table dx [("spot_marks",.ref t1),("lines",.ref t2)])).1
       refine⟨_,bA.of (X3 _),x0,bT (j:=0) rfl,c0,UZ,_,bA.of Lq,_,_,_,ag,T.bz,T.jf,by show 2<1000;decide,fin _ rfl⟩
    ·refine⟨_,_,_,ag,T.bz,T.jf,by show 2<1000;decide,fin _ ?_⟩
     cases xs with
     | nil =>
      cases ls with
      | nil=>rfl
      | cons l0 lr=>exact hn.elim
     | cons x0 xr=>exact absurd rfl sN
theorem EU {f:Addr}{fd:FuncData} (F:qL K "many" "Table.many" vg f fd) (T:Txt K mg ad):av P w K mg base bw 1 f fd ["self"] (tX ad):=by
 refine F.ok EF (fun vs H Q E h=>?_) (fun gJ A outer s H vs Q E hr h=>?_)
 ·obtain⟨p,ls,w,rfl,_⟩:=h
  rfl
 ·obtain⟨p,ls,w,rfl,⟨dx,t1,t2,xs,h1,h2,h3,h4,_⟩,k⟩:=h
  refine⟨_,(@ai _ _ _ (aK (aI dF (aS uH rfl T.len PySem.boot_len (ae (bt (pv 0) rfl) af)) (bt (pv 0) rfl)))),?_⟩
  and_intros
  refine⟨ad.Table,dx,_,h1,T.bz,T.jg,.ref t2,wV (by decide +kernel),t2,rfl,_,df.of h3,?_⟩
  refine⟨ad.Table,dx,_,h1,T.bz,T.jf,.int w,Ll (by decide +kernel) (by decide +kernel),_,rfl,?_⟩
  rw[h4.length]
  exact k
theorem EV {f:Addr}{fd:FuncData} (F:qL K "left" "Table.left" lg f fd) (T:Txt K mg ad) {cL:Addr}{dR:FuncData} (fu:av P w K mg base (oP P w) 2 cL dR ["places","many"] (jR ad)) {jK:Addr}{pQ:FuncData} (vE:av P w K mg base bw 1 jK pQ ["self"] (tX ad)) {fW:Addr}{iW:FuncData} (lO:av P w K mg base (oP P w) 4 fW iW ["self","lines"] (pN ad)) {fI:Addr}{gT:FuncData} (jE:av P w K mg base bw 1 fI gT ["marks","places"] (qc K)) (bR:Def K mg "check_places" hX ["places","many"] cL dR) (d5:Def K mg "marks_at" kE ["marks","places"] fI gT) (vF:Binds K pQ ["self"] []) (lP:Binds K iW ["self","lines"] []) (uh:Meth K ad.Table "many" jK) (yC:Mk K ad.Table fW):av P w K mg base (oP P w) 6 f fd ["self","places"] (mr ad):=by
 refine F.MJ mj (fun vs H Q E h=>?_) (fun gJ A outer s H vs Q E hr h=>?_)
 ·obtain⟨p,v,ls,w,rfl,_⟩:=h
  rfl
 ·obtain⟨p,v,ls,w,rfl,hp,t,kg,kb⟩:=h
  refine⟨_,(@ah _ _ _ _ _ (dk (aT fu (hr.mono (by decide)) rfl bR.mg bR.F.kp bR.b .nil sU (ae (pv 1) (ae (eo (pv 0) T.bz uh vE (hr.mono (by decide)) vF .nil aA) af))))
   (@ah _ _ _ _ _ (aP (i:=2) mj.nd rfl (Or.inr rfl) (aS uH rfl T.len PySem.boot_len (ae (bt (pv 0) rfl) af)))
   (@ah _ _ _ _ _ (Lf (i:=3) rfl mj.nd rfl (Or.inl rfl) (show br ["self","places","first_column","lines","columns","rest"] (ar lg) _ ["place"] ["self","first_column"] [0,2] from ⟨rfl,by decide +kernel,by decide +kernel,by decide +kernel,by decide +kernel,by decide +kernel,by decide +kernel,rfl,by decide +kernel⟩) (dU (pv 1)) (fun C s₀ H₀ ex pn=>⟨aZ (i:=0) (show (["place","self","first_column"]:List Str).Nodup by decide +kernel) rfl (Or.inl rfl),(wR (aL wK (pv 0) (pv 2) (aQ _))),(bo (show GX _ (rIxT K) from cT) (show PE _ _ (tFld K _ _) from bt (pv 1) rfl) (pv 0) (fun _ _=>rfl))⟩))
   (@ah _ _ _ _ _ (aP (i:=4) mj.nd rfl (Or.inr rfl) (fP (own:=["place"]) (cap:=["first_column"]) (ix:=[2]) rfl (show br ["self","places","first_column","lines","columns","rest"] (ar lg) _ ["place"] ["first_column"] [2] from ⟨rfl,by decide +kernel,by decide +kernel,by decide +kernel,by decide +kernel,by decide +kernel,by decide +kernel,rfl,by decide +kernel⟩) (dU (pv 1)) (fun C s₀ H₀ ex pn=>⟨aZ (i:=0) (show (["place","first_column"]:List Str).Nodup by decide +kernel) rfl (Or.inl rfl),(wR (aL M3 (pv 0) (pv 1) (aQ _))),(aI C1 (pv 0) (pv 1))⟩)))
   (@ah _ _ _ _ _ (aP (i:=5) mj.nd rfl (Or.inl rfl) (ke yC lO (hr.mono (by decide)) rfl T.Lr lP .nil sU (ae (fP (own:=["line"]) (cap:=["columns"]) (ix:=[4]) rfl (show br ["self","places","first_column","lines","columns","rest"] (ar lg) _ ["line"] ["columns"] [4] from ⟨rfl,by decide +kernel,by decide +kernel,by decide +kernel,by decide +kernel,by decide +kernel,by decide +kernel,rfl,by decide +kernel⟩) (dU (pv 3)) (fun C s₀ H₀ ex pn=>⟨aZ (i:=0) (show (["line","columns"]:List Str).Nodup by decide +kernel) rfl (Or.inl rfl),fh,(aT jE (hr.mono (by decide)) rfl d5.mg d5.F.kp d5.b .nil aA (ae (pv 0) (ae (pv 1) af)))⟩)) af)))
   (@ah _ _ _ _ _ (qu (pv 5) (aS bE rfl T.len PySem.boot_len (ae (pv 4) af)) rfl)
   (@ai _ _ _ (aK (pv 5))))))))),?_⟩
  obtain⟨dx,t1,t2,ts,h1,h2,h3,h4,h5,h6,h7⟩:=id hp
  refine ak fun B hB=>?_
  and_intros
  refine⟨dx,_,h1,y8 (by decide +kernel) (by decide +kernel) (by decide +kernel),p,ls,w,rfl,hp,v,_,rfl,t,fun hg H1 s1=>?_,fun hb H1 s1=>kb hb H1 s1⟩
  obtain⟨a,ps,rfl,ha,d4⟩:=hg
  have Rk:=places_len d4 (by omega)
  subst hB
  refine ak fun B hB=>?_
  and_intros
  refine⟨ad.Table,dx,_,s1 _ _ h1,T.bz,T.jg,.ref t2,wV (by decide +kernel),t2,rfl,_,df.of (s1 _ _ h3),?_⟩
  rw[h4.length]
  subst hB
  refine ak fun B hB=>?_
  and_intros
  have lts:=h4.length
  have WM:=s1 _ _ h1
  have WN:=s1 _ _ h3
  have WO:=h4.same s1
  have WQ:=s1 _ _ ha
  refine fi (K:=K) (a:=a) (xs:=ps.map V.int) (H1:=H1) (fun R rr=>⟨_,rfl,a,rfl,⟨_,bA.of WQ⟩,rr⟩) (fun i ys H'=>H'=H1∧aN .tup H1 ys ((linesOf ls.length (ps.take i)).map fun i=>ls.getD i.toNat [])) ⟨rfl,trivial⟩ (fun i ys H' _ ⟨e,_⟩=>e▸bA.of WQ) ?_ ?_
  ·rintro i x ys H' R hx ⟨rfl,hr⟩ hR
   rw[List.getElem?_map] at hx
   obtain⟨q,eq,rfl⟩:=Option.map_eq_some_iff.mp hx
   obtain⟨q0,q1⟩:=ck d4 q (List.mem_of_getElem? eq)
   have et:ps.take (i+1)=ps.take i++[q]:=by rw[List.take_add_one,eq];rfl
   and_intros
   refine fz (fun qt=>?_) fun qt=>hR _ _ ⟨rfl,?_⟩
   ·obtain⟨qn,rfl⟩:=Int.eq_ofNat_of_zero_le q0
    have PZ:qn<ts.length:=by omega
    obtain⟨lq,T6,rq⟩:=WO.get (List.getElem?_eq_getElem PZ)
    refine⟨ad.Table,dx,_,WM,T.bz,T.jg,.ref t2,wV (by decide +kernel),t2,rfl,_,df.of WN,_,bT (List.getElem?_eq_getElem PZ),?_,hR _ _ ⟨rfl,?_⟩⟩
    ·rw[hr.length,List.length_map]
     have:=sV (n:=ls.length) (B4 i d4)
     exact ay (by omega)
    ·rw[et,wX,if_pos qt,List.map_append]
     refine hr.append ⟨?_,trivial⟩
     show wj .tup _ _ (ls.getD ((qn:Int)).toNat [])
     rw[Int.toNat_natCast,List.getD_eq_getElem?_getD,T6]
     exact rq
   ·rw[et,wX,if_neg qt,List.append_nil]
    exact hr
  ·rintro ys H' ⟨rfl,hr⟩
   rw[show (ps.map V.int).length=ps.length from List.length_map _,List.take_length] at hr
   have X4:=sV (n:=ls.length) d4
   have c12:=u9 (n:=ls.length) d4
   refine⟨by rw[hr.length,List.length_map];exact Nat.le_of_lt (ay (by omega)),fun D hD=>?_⟩
   have s2:=aq.put (o:=.lst ys) hD
   have fD:(upd H' D (.lst ys)) D=some (.lst ys):=ag
   generalize (upd H' D (.lst ys))=H2 at s2 fD ⊢
   have Q7:=s2 _ _ WQ
   subst hB
   refine ak fun B hB=>?_
   and_intros
   refine fi (K:=K) (a:=a) (xs:=ps.map V.int) (H1:=H2) (fun R rr=>⟨_,rfl,a,rfl,⟨_,bA.of Q7⟩,rr⟩) (fun i zs H'=>H'=H2∧zs=(bB ls.length (ps.take i)).map V.int) ⟨rfl,rfl⟩ (fun i ys H' _ ⟨e,_⟩=>e▸bA.of Q7) ?_ ?_
   ·rintro i x zs H' R hx ⟨rfl,rfl⟩ hR
    rw[List.getElem?_map] at hx
    obtain⟨q,eq,rfl⟩:=Option.map_eq_some_iff.mp hx
    have et:ps.take (i+1)=ps.take i++[q]:=by rw[List.take_add_one,eq];rfl
    and_intros
    refine fz (fun hle=>⟨?_,hR _ _ ⟨rfl,?_⟩⟩) fun hle=>hR _ _ ⟨rfl,?_⟩
    ·rw[List.length_map]
     have:=u9 (n:=ls.length) (B4 i d4)
     exact ay (by omega)
    ·rw[et,y9,if_pos hle,List.map_append];rfl
    ·rw[et,y9,if_neg hle,List.append_nil]
   ·rintro zs H' ⟨rfl,rfl⟩
    rw[show (ps.map V.int).length=ps.length from List.length_map _,List.take_length]
    refine⟨by rw[List.length_map];exact Nat.le_of_lt (ay (by omega)),fun D2 Zv=>?_⟩
    have s3:=aq.put (o:=.lst ((bB ls.length ps).map V.int)) Zv
    have WR:(upd H' D2 (.lst ((bB ls.length ps).map V.int))) D2=some (.lst ((bB ls.length ps).map V.int)):=ag
    generalize (upd H' D2 (.lst ((bB ls.length ps).map V.int)))=H3 at s3 WR ⊢
    have X5:=s3 _ _ fD
    have Zw:=hr.same (s2.trans s3)
    have WS:=hr.length
    rw[List.length_map] at WS
    subst hB
    refine ak fun B hB=>?_
    and_intros
    refine fi (K:=K) (a:=D) (xs:=ys) (H1:=H3) (fun R rr=>⟨_,rfl,D,rfl,⟨_,bA.of X5⟩,rr⟩) (fun i zs H'=>aq H3 H'∧aN .lst H' zs ((iZ ls ps).take i)) ⟨aq.refl _,trivial⟩ (fun i ys H' _ ⟨s,_⟩=>bA.of (s _ _ X5)) ?_ ?_
    ·rintro i x zs H' R hx ⟨s4,hz⟩ hR
     obtain⟨li,X6,ti,Zx,VZ⟩:=Zw.get hx
     rw[List.getElem?_map] at X6
     obtain⟨q,eq,rfl⟩:=Option.map_eq_some_iff.mp X6
     obtain⟨q0,q1⟩:=nv d4 q (List.mem_of_getElem? eq)
     subst Zx
     simp only[wQ]
     and_intros
     have PZ:q.toNat<ls.length:=by omega
     have T6:ls.getD q.toNat []=ls[q.toNat]:=by rw[List.getD_eq_getElem?_getD,List.getElem?_eq_getElem PZ];rfl
     have U1:=h7 _ (List.getElem_mem PZ)
     refine⟨ti,D2,_,bB ls.length ps,rfl,df.of (s4 _ _ VZ),s4 _ _ WR,fun j hj=>?_,by omega,fun l hl=>⟨?_,hR _ _ ⟨s4.upd hl,?_⟩⟩⟩
     ·have:=rp d4 j hj
      rw[T6,U1.1]
      exact this
     ·rw[hz.length,List.length_take];exact ay (by have:(iZ ls ps).length=(linesOf ls.length ps).length:=List.length_map _;omega)
     ·have e2:(iZ ls ps)[i]? = some ((bB ls.length ps).map fun j=>(ls.getD q.toNat []).getD j.toNat .cU):=by
       unfold iZ
       rw[List.getElem?_map,eq]
       rfl
      rw[List.take_add_one,e2]
      exact (hz.same (aq.put hl)).append ⟨⟨l,rfl,ag⟩,trivial⟩
    ·rintro zs H' ⟨s4,hz⟩
     have lT:(iZ ls ps).length=(linesOf ls.length ps).length:=List.length_map _
     rw[show ys.length=(iZ ls ps).length by omega,List.take_length] at hz
     have T7:=hz.length
     refine⟨Nat.le_of_lt (ay (by omega)),fun D3 WT x6 N4 hx vp sN=>?_⟩
     have ma:∀ l∈iZ ls ps,qw (bB ls.length ps).length l:=fun l hl=>by
      obtain⟨q,hq,rfl⟩:=List.mem_map.mp hl
      obtain⟨q0,q1⟩:=nv d4 q hq
      have PZ:q.toNat<ls.length:=by omega
      have T6:ls.getD q.toNat []=ls[q.toNat]:=by rw[List.getD_eq_getElem?_getD,List.getElem?_eq_getElem PZ];rfl
      have U1:=h7 _ (List.getElem_mem PZ)
      refine⟨List.length_map _,?_⟩
      rw[List.all_eq_true]
      intro x hx
      obtain⟨j,hj,rfl⟩:=List.mem_map.mp hx
      obtain⟨j0,j1⟩:=rp d4 j hj
      have X7:j.toNat<(ls[q.toNat]).length:=by rw[U1.1];omega
      rw[T6,List.getD_eq_getElem?_getD,List.getElem?_eq_getElem X7,Option.getD_some]
      exact List.all_eq_true.mp U1.2 _ (List.getElem_mem X7)
     have tT:BY (iZ ls ps):=⟨_,by omega,ma⟩
     have sA:=(((s1.trans s2).trans s3).trans s4).upd (o:=.lst zs) WT
     have f3:(upd H' D3 (.lst zs)) D3=some (.lst zs):=ag
     have X8:=hz.same (aq.put (o:=.lst zs) WT)
     have fC:=(s4.upd (o:=.lst zs) WT) _ _ WR
     generalize (upd H' D3 (.lst zs))=H5 at sA f3 X8 fC hx vp ⊢
     have A2:aq H5 (upd (upd H5 N4 (.own x6)) x6 (.ins ad.Table N4 [])):=(aq.put vp).upd (by rw[aF (Ne.symm sN)];exact hx)
     have Rp:=A2 D3 _ f3
     have WU:=X8.same A2
     refine⟨x6,N4,.ref D3,rfl,ag,Nw Rp (WU.Tb fun l hl=>(ma l hl).2),fun a' GZ N6 e h yH Lk Et H8 IE sb=>⟨rfl,?_⟩,fun hb=>absurd ⟨D3,_,_,rfl,Rp,by omega,WU,tT⟩ hb⟩
     cases e
     rw[Rp] at h
     cases h
     rw[Lk.uniq WU] at IE
     have Sf:aq H5 H8:=fun b o e=>sb b o (aG e hx) (A2 b o e)
     obtain⟨Zy,u1,u2,us,g1,g2,g3,g4,g5,g6,g7⟩:=IE
     subst hB
     and_intros
     refine⟨_,bA.of (Sf _ _ fC),_,_,_,g1,T.bz,T.jf,by show 3<1000;decide,?_⟩
     rw[QX (by decide +kernel) (by decide +kernel),List.length_map]
     have nu:∀ b o,H8 b=some o→(∀ c d e,o≠HO.ins c d e)→b≠x6:=fun b o e h=>uE e g1 (h _ _ _)
     refine kg a ps rfl ha d4 x6 _ (fun b o e=>?_) ⟨Zy,u1,u2,us,ag,?_,?_,?_,by omega,by omega,ma⟩
     ·rw[aF (aG (sA _ _ e) hx)];exact Sf _ _ (sA _ _ e)
     ·exact g2.to fun o e=>by rw[aF (nu _ _ e fun _ _ _ z=>nomatch z)];exact e
     ·rw[aF (nu _ _ g3 fun _ _ _ z=>nomatch z)];exact g3
     ·exact aN.keep (f:=.tup) (fun b zs (e:H8 b=some (.tup zs))=>by rw[aF (nu _ _ e fun _ _ _ z=>nomatch z)];exact e) g4
theorem CK {f:Addr}{fd:FuncData} (D:Def K mg "_law_cell_at" gc ["_law_script","_law_k"] f fd) (T:Txt K mg ad):av P w K mg base bw 1 f fd ["_law_script","_law_k"] (iq K):=by
 refine D.F.ok CB (fun vs H Q E h=>?_) (fun gJ A outer s H vs Q E hr h=>?_)
 ·obtain⟨a,ns,k,rfl,_⟩:=h
  rfl
 ·obtain⟨a,ns,k,rfl,hS,q⟩:=h
  refine⟨_,(@ah _ _ _ _ _ (cE (aL wK (pv 1) (aS bE rfl T.len PySem.boot_len (ae (pv 0) af)) (aQ _))
   (@ai _ _ _ (aK (bo cx (pv 0) (pv 1) (fun _ _=>rfl))))
   aV)
   (@ai _ _ _ (aK (aI dF (aI tO aj (pv 1)) aj)))),?_⟩
  and_intros
  refine⟨_,hS,fz (fun h1=>?_) (fun h1=>⟨.inl ⟨by decide,by decide⟩,q _⟩)⟩
  have h1:k<ns.length:=by rw[List.length_map] at h1;omega
  exact⟨_,hS,_,bT (by rw[List.getElem?_map,List.getElem?_eq_getElem h1];rfl),q _⟩
theorem EW {f:Addr}{fd:FuncData} (D:Def K mg "_law_names" nS ["_law_cell","_law_many"] f fd) (T:Txt K mg ad):av P w K mg base bw 1 f fd ["_law_cell","_law_many"] ub:=by
 refine D.F.ok bC (fun vs H Q E h=>?_) (fun gJ A outer s H vs Q E hr h=>?_)
 ·obtain⟨c,m,rfl,_⟩:=h
  rfl
 ·obtain⟨c,m,rfl,hm,k⟩:=h
  have hu:=hr.units
  have hsz:∀ {z:Str},z.length≤1000→z.length≤sizeLine:=fun h=>Nat.le_of_lt (ay h)
  have go:=fun j:Int=>QV (z:=Jm) (i:=j) (m:=26) (by decide) (by decide +kernel)
  have allM:∀ {ws:List Str},(∀ z∈ws,d6 z=true)→(ws.map V.str).all markV=true:=fun {ws} h=>List.all_eq_true.mpr fun x hx=>by
   obtain⟨z,hz,rfl⟩:=List.mem_map.mp hx
   exact h z hz
  have mk:∀ {z:Str},1≤z.length→z.length≤8→(∀ y∈z.cps.toList,y∈Jm.cps.toList)→d6 z=true:=fun h1 h2 h3=>OY h1 h2 fun y hy=>Ho.mpr (h3 y hy)
  refine⟨_,(@ah _ _ _ _ _ (aP (i:=2) bC.nd rfl (Or.inl rfl) bI)
   (@ah _ _ _ _ _ (aP (i:=3) bC.nd rfl (Or.inl rfl) (aI dF aj (aI cS (pv 0) aj)))
   (@ah _ _ _ _ _ (aP (i:=4) bC.nd rfl (Or.inl rfl) (aI cS (aI fO (pv 0) aj) (pv 3)))
   (@ah _ _ _ _ _ (aP (i:=5) bC.nd rfl (Or.inl rfl) (gK af))
   (@ah _ _ _ _ _ (aP (i:=6) bC.nd rfl (Or.inl rfl) (aI fO (pv 0) aj))
   (@ah _ _ _ _ _ (fZ PassesOwn.never rfl (jV rfl T.range (ae (aI tO (aI tO (pv 1) (aI cS (pv 0) aj)) (fw LP rfl T.int PyProof.Rows.boot_int (ae (kc wL (pv 0) (aI Qs aj aj) (aQ _)) af))) af)) (aZ (i:=7) bC.nd rfl (Or.inl rfl))
   (@ah _ _ _ _ _ (aP (i:=8) bC.nd rfl (Or.inl rfl) (bo FG (pv 2) (aI cS (aI fO (pv 6) aj) aj) (fun _ _=>rfl)))
   (@ah _ _ _ _ _ (aP (i:=9) bC.nd rfl (Or.inl rfl) (aI cS (pv 6) aj))
   (@ah _ _ _ _ _ (aP (i:=6) bC.nd rfl (Or.inl rfl) (aI fO (pv 6) aj))
   (@ah _ _ _ _ _ (fZ PassesOwn.never rfl (jV rfl T.range (ae (pv 9) af)) (aZ (i:=10) bC.nd rfl (Or.inl rfl))
   (@ah _ _ _ _ _ (aP (i:=8) bC.nd rfl (Or.inl rfl) (aI C4 (pv 8) (bo FG (pv 2) (aI cS (pv 6) aj) (fun _ _=>rfl))))
   (@ai _ _ _ (aP (i:=6) bC.nd rfl (Or.inl rfl) (aI fO (pv 6) aj)))))
   (@ai _ _ _ (dk (qI PySem.F.plainAttrs_list PySem.F.slot_list_append PySem.F.type_list_append gk (pv 5) (ae (pv 8) af)))))))))
   (@ah _ _ _ _ _ (cE (aL (Jk hu) (pv 5) (gK af) (aQ _))
   (@ai _ _ _ (aK (pv 5)))
   aV)
   (@ah _ _ _ _ _ (fZ PassesOwn.never rfl (jV rfl T.range (ae (pv 1) af)) (aZ (i:=7) bC.nd rfl (Or.inl rfl))
   (@ah _ _ _ _ _ (aP (i:=8) bC.nd rfl (Or.inl rfl) bI)
   (@ah _ _ _ _ _ (fZ PassesOwn.never rfl (jV rfl T.range (ae (pv 3) af)) (aZ (i:=10) bC.nd rfl (Or.inl rfl))
   (@ah _ _ _ _ _ (aP (i:=11) bC.nd rfl (Or.inl rfl) (aI dF (aI fO (pv 0) (aI dF aj (aI tO aj (pv 10)))) (aI tO (pv 10) (pv 10))))
   (@ah _ _ _ _ _ (cE (aL dS (pv 10) (pv 4) (aQ _))
   (@ai _ _ _ (aP (i:=11) bC.nd rfl (Or.inl rfl) (aI dF (pv 11) (pv 7))))
   aV)
   (@ai _ _ _ (aP (i:=8) bC.nd rfl (Or.inl rfl) (aI C4 (pv 8) (bo FG (pv 2) (aI cS (pv 11) aj) (fun _ _=>rfl))))))))
   (@ai _ _ _ (dk (qI PySem.F.plainAttrs_list PySem.F.slot_list_append PySem.F.type_list_append gk (pv 5) (ae (pv 8) af)))))))
   (@ai _ _ _ (aK (pv 5))))))))))),?_⟩
  refine ak fun B hB=>?_
  and_intros
  subst hB
  refine ak fun B hB=>?_
  and_intros
  have s0':=Int.emod_nonneg c (show (8:Int)≠0 by decide)
  have s8':=Int.emod_lt_of_pos c (show (0:Int)<8 by decide)
  obtain⟨sz,T8⟩:=Int.eq_ofNat_of_zero_le (show 0≤1+c % 8 by omega)
  rw[T8]
  have z1:1≤sz:=by omega
  have z8:sz≤8:=by omega
  subst hB
  refine ak fun B hB=>?_
  and_intros
  refine⟨by omega,?_⟩
  generalize c / 8 % (sz:Int)=ea
  subst hB
  refine ak fun B hB=>?_
  and_intros
  refine⟨by decide,fun l hl=>?_⟩
  have s0:=aq.put (o:=.lst []) hl
  have f0:(upd H l (.lst [])) l=some (.lst []):=ag
  generalize (upd H l (.lst []))=H0 at s0 f0 ⊢
  subst hB
  refine ak fun B hB=>?_
  and_intros
  subst hB
  refine ak fun B hB=>?_
  have c0:=Int.emod_nonneg c (show (2:Int)≠0 by decide)
  have c2:=Int.emod_lt_of_pos c (show (0:Int)<2 by decide)
  obtain⟨cp,ecp⟩:=Int.eq_ofNat_of_zero_le c0
  obtain⟨n1,MK,UY⟩:∃ n1:Nat,(m:Int)*(c % 2)*(if (10:Int) ^ Int.toNat 9<c then 1 else 0)=(n1:Int)∧(n1=0∨n1=m):=by
   rcases (show c % 2=0∨c % 2=1 by omega) with h | h
   ·exact⟨0,by rw[h];simp,.inl rfl⟩
   ·by_cases h2:(10:Int) ^ Int.toNat 9<c
    ·exact⟨m,by rw[h,if_pos h2];simp,.inr rfl⟩
    ·exact⟨0,by rw[h,if_neg h2];simp,.inl rfl⟩
  refine (show tN _ _ _ _ _ _ from ?_)
  refine (show iRng1 _ _ _ _ from ?_)
  refine mw (fun J H1=>J=Fz 0 n1∧H1=H0) (fun G hG=>?_) ?_
  ·and_intros
   refine⟨.inl ⟨by omega,by omega⟩,⟨by decide,by decide,by decide⟩,.inr ⟨.inr ⟨by split<;>decide,by split<;>decide⟩,?_⟩⟩
   rw[MK]
   exact⟨by omega,by omega,hG _ _ ⟨by rw[Int.toNat_natCast],rfl⟩⟩
  rintro J H1 ⟨rfl,rfl⟩
  refine i8 (n:=n1) (fun i σ H'=>aq H H'∧∃ ws:List Str,H' l=some (.lst (ws.map V.str))∧ws.length=i∧(∀ z∈ws,d6 z=true)∧∃ (rest:Int) (o7 o8 o9 N7:Option V),bx σ [some (.int c),some (.int m),some (.str Jm),some (.int sz),some (.int ea),some (.ref l),some (.int rest),o7,o8,o9,N7,none]) ⟨s0,[],f0,rfl,(fun _ z=>nomatch z),_,none,none,none,none,bx.rfl⟩ ?_ ?_
  ·rintro i σ H' hi ⟨s1,ws,yH,hw,IM,rest,o7,o8,o9,N7,rfl⟩
   refine ak fun B hB=>?_
   and_intros
   obtain⟨x,hx,ex⟩:=go (rest / 8)
   refine⟨hsz (by decide +kernel),x,ex,?_⟩
   subst hB
   refine ak fun B hB=>?_
   and_intros
   obtain⟨mo,Zz⟩:=Int.eq_ofNat_of_zero_le (Int.emod_nonneg rest (show (8:Int)≠0 by decide))
   have mo8:=Int.emod_lt_of_pos rest (show (0:Int)<8 by decide)
   rw[Zz]
   subst hB
   refine ak fun B hB=>?_
   and_intros
   generalize rest / 208=X9
   subst hB
   refine ak fun B hB=>?_
   refine⟨_,rfl,mo,rfl,by omega,by omega,?_⟩
   rw[Int.toNat_natCast]
   refine i8 (n:=mo) (fun j σ H2=>H2=H'∧∃ w:Str,w.length=j+1∧(∀ y∈w.cps.toList,y∈Jm.cps.toList)∧∃ (rest:Int) (N7:Option V),bx σ [some (.int c),some (.int m),some (.str Jm),some (.int sz),some (.int ea),some (.ref l),some (.int rest),some (.int (0+(i:Int))),some (.str w),some (.int mo),N7,none]) ⟨rfl,⟨#[x]⟩,rfl,?_,_,_,bx.rfl⟩ ?_ ?_
   ·intro y hy
    rw[show y=x by simpa using hy]
    exact hx
   ·rintro j σ H2 hj ⟨rfl,w,OB,P0,P4,Rv,rfl⟩
    and_intros
    obtain⟨x2,PV,T9⟩:=go P4
    refine⟨hsz (by decide +kernel),x2,T9,?_,w++⟨#[x2]⟩,?_,fun y hy=>?_,_,_,bx.rfl⟩
    ·rw[yz];exact Nat.le_of_lt (ay (by omega))
    ·rw[Str.length_append,yz,OB]
    ·rw[app_list,List.mem_append] at hy
     rcases hy with h | h
     ·exact P0 y h
     ·rw[show y=x2 by simpa using h];exact PV
   rintro σ H2 ⟨rfl,w,OB,P0,P4,Rv,rfl⟩
   dsimp only
   subst hB
   and_intros
   refine⟨.inl ⟨rfl,_,bA.of yH⟩,_,yH,by rw[List.length_map];exact ay (by omega),kf s1 hl,ws++[w],by rw[ag,List.map_append];rfl,by rw[List.length_append,hw];rfl,fun y L1=>?_,_,_,_,_,_,bx.rfl⟩
   rcases List.mem_append.mp L1 with h | h
   ·exact IM y h
   ·rw[List.mem_singleton.mp h];exact mk (by omega) (by omega) P0
  rintro σ H' ⟨s1,ws,yH,hw,IM,rest,o7,o8,o9,N7,rfl⟩
  dsimp only
  subst hB
  refine ak fun B hB=>?_
  and_intros
  refine⟨by decide,fun e he=>?_⟩
  have se:=aq.put (o:=.lst []) he
  have fe:(upd H' e (.lst [])) e=some (.lst []):=ag
  generalize (upd H' e (.lst []))=H5 at se fe ⊢
  have MB:=se _ _ yH
  have am:=allM IM
  have cm:=nN am
  have dm:=pZ (ws.map V.str)
  refine⟨_,_,.lst (bA.of MB) (pY am),.lst (bA.of fe) .nil,?_,rfl,?_⟩
  ·unfold SeqAt.shaped
   rw[Bool.and_eq_true]
   refine⟨by simp only[PyData.canLay0];exact cm,decide_eq_true ?_⟩
   simp only[PyData.depth]
   omega
  cases ws with
  | cons z r =>
   have nz:n1=m:=by
    rw[List.length_cons] at hw
    rcases UY with h | h
    ·omega
    ·exact h
   refine⟨true,rfl,?_⟩
   rw[if_pos rfl]
   exact k (z::r) l H5 (by rw[hw];exact nz) IM (s1.trans se) MB
  | nil =>
   refine⟨false,rfl,?_⟩
   rw[if_neg (by decide)]
   have s5:=s1.trans se
   subst hB
   refine ak fun B hB=>?_
   refine⟨_,rfl,m,rfl,by omega,by omega,?_⟩
   rw[Int.toNat_natCast]
   refine i8 (n:=m) (fun i σ H'=>aq H H'∧∃ ws:List Str,H' l=some (.lst (ws.map V.str))∧ws.length=i∧(∀ z∈ws,d6 z=true)∧∃ o7 o8 N7 Pg:Option V,bx σ [some (.int c),some (.int m),some (.str Jm),some (.int sz),some (.int ea),some (.ref l),some (.int rest),o7,o8,o9,N7,Pg]) ⟨s5,[],MB,rfl,(fun _ z=>nomatch z),_,_,_,_,bx.rfl⟩ ?_ ?_
   ·rintro i σ H' hi ⟨s1,ws,yH,hw,IM,o7,o8,N7,Pg,rfl⟩
    refine ak fun B2 yJ=>?_
    and_intros
    subst yJ
    refine ak fun B2 yJ=>?_
    refine⟨_,rfl,sz,rfl,by omega,by omega,?_⟩
    rw[Int.toNat_natCast]
    refine i8 (n:=sz) (fun j σ H2=>H2=H'∧∃ w:Str,w.length=j∧(∀ y∈w.cps.toList,y∈Jm.cps.toList)∧∃ N7 Pg:Option V,bx σ [some (.int c),some (.int m),some (.str Jm),some (.int sz),some (.int ea),some (.ref l),some (.int rest),some (.int (0+(i:Int))),some (.str w),o9,N7,Pg]) ⟨rfl,Str.empty,rfl,(fun _ z=>nomatch z),_,_,bx.rfl⟩ ?_ ?_
    ·rintro j σ H2 hj ⟨rfl,w,OB,P0,Rv,WV,rfl⟩
     refine ak fun B3 U2=>?_
     and_intros
     refine⟨.inl ⟨by decide,by decide⟩,by omega,by omega,.inl ⟨by omega,by omega⟩,?_⟩
     generalize c / (64+3*(0+(j:Int)))+(0+(j:Int))*(0+(j:Int))=pl
     subst U2
     refine ak fun B3 U2=>?_
     and_intros
     refine fz (fun _=>?_) fun _=>?_
     ·subst U2
      and_intros
      obtain⟨x2,PV,T9⟩:=go (pl+(0+(i:Int)))
      refine⟨hsz (by decide +kernel),x2,T9,?_,w++⟨#[x2]⟩,?_,fun y hy=>?_,_,_,bx.rfl⟩
      ·rw[yz];exact Nat.le_of_lt (ay (by omega))
      ·rw[Str.length_append,yz,OB]
      ·rw[app_list,List.mem_append] at hy
       rcases hy with h | h
       ·exact P0 y h
       ·rw[show y=x2 by simpa using h];exact PV
     ·subst U2
      and_intros
      obtain⟨x2,PV,T9⟩:=go pl
      refine⟨hsz (by decide +kernel),x2,T9,?_,w++⟨#[x2]⟩,?_,fun y hy=>?_,_,_,bx.rfl⟩
      ·rw[yz];exact Nat.le_of_lt (ay (by omega))
      ·rw[Str.length_append,yz,OB]
      ·rw[app_list,List.mem_append] at hy
       rcases hy with h | h
       ·exact P0 y h
       ·rw[show y=x2 by simpa using h];exact PV
    rintro σ H2 ⟨rfl,w,OB,P0,Rv,WV,rfl⟩
    dsimp only
    subst yJ
    and_intros
    refine⟨.inl ⟨rfl,_,bA.of yH⟩,_,yH,by rw[List.length_map];exact ay (by omega),kf s1 hl,ws++[w],by rw[ag,List.map_append];rfl,by rw[List.length_append,hw];rfl,fun y L1=>?_,_,_,_,_,bx.rfl⟩
    rcases List.mem_append.mp L1 with h | h
    ·exact IM y h
    ·rw[List.mem_singleton.mp h];exact mk (by omega) (by omega) P0
   rintro σ H' ⟨s1,ws,yH,hw,IM,o7,o8,N7,Pg,rfl⟩
   dsimp only
   subst hB
   and_intros
   exact k ws l H' hw IM s1 yH
theorem Gx {f:Addr}{fd:FuncData} (D:Def K mg "_law_data" ju ["_law_script","_law_begin","_law_kind","_law_many","_law_names_here"] f fd) (T:Txt K mg ad) {bS:Addr}{cu:FuncData} (a9:av P w K mg base bw 1 bS cu ["_law_script","_law_k"] (iq K)) (aw:Def K mg "_law_cell_at" gc ["_law_script","_law_k"] bS cu):av P w K mg base bw 2 f fd ["_law_script","_law_begin","_law_kind","_law_many","_law_names_here"] (vw K):=by
 refine D.F.ok gL (fun vs H Q E h=>?_) (fun gJ A outer s H vs Q E hr h=>?_)
 ·obtain⟨a,nl,ns,b,m,kd,zs,rfl,_⟩:=h
  rfl
 ·obtain⟨a,nl,ns,b,m,kd,zs,rfl,hS,hm,k0,k3,N8,z1,U3,hz,k⟩:=h
  refine⟨_,(@ah _ _ _ _ _ (Lf (i:=5) rfl gL.nd rfl (Or.inl rfl) (show br ["_law_script","_law_begin","_law_kind","_law_many","_law_names_here","_law_cells","_law_nodes","_law_deep","_law_cell","_law_wide","_law_lines","_law_k"] (ar ju) _ ["_law_k"] ["_law_script","_law_begin"] [0,1] from ⟨rfl,by decide +kernel,by decide +kernel,by decide +kernel,by decide +kernel,by decide +kernel,by decide +kernel,rfl,by decide +kernel⟩) (jV rfl T.range (ae (pv 3) af)) (fun C s₀ H₀ ex pn=>⟨aZ (i:=0) (show (["_law_k","_law_script","_law_begin"]:List Str).Nodup by decide +kernel) rfl (Or.inl rfl),fh,(aT a9 (hr.mono (by decide)) rfl aw.mg aw.F.kp aw.b .nil aA (ae (pv 1) (ae (aI dF (pv 2) (pv 0)) af)))⟩))
   (@ah _ _ _ _ _ (cE (aL dS (pv 2) aj (aQ _))
   (@ai _ _ _ (aK (fP (own:=["_law_cell"]) (cap:=["_law_names_here"]) (ix:=[4]) rfl (show br ["_law_script","_law_begin","_law_kind","_law_many","_law_names_here","_law_cells","_law_nodes","_law_deep","_law_cell","_law_wide","_law_lines","_law_k"] (ar ju) _ ["_law_cell"] ["_law_names_here"] [4] from ⟨rfl,by decide +kernel,by decide +kernel,by decide +kernel,by decide +kernel,by decide +kernel,by decide +kernel,rfl,by decide +kernel⟩) (dU (pv 5)) (fun C s₀ H₀ ex pn=>⟨aZ (i:=0) (show (["_law_cell","_law_names_here"]:List Str).Nodup by decide +kernel) rfl (Or.inl rfl),fh,(bo (show GX _ (rIxL K) from cx) (pv 1) (aI cS (pv 0) (aS (show gH _ (.builtin "len") (rLenL K) from bE) rfl T.len PySem.boot_len (ae (pv 1) af))) (fun _ _=>rfl))⟩))))
   aV)
   (@ah _ _ _ _ _ (cE (aL dS (pv 2) aj (aQ _))
   (@ah _ _ _ _ _ (aP (i:=6) gL.nd rfl (Or.inl rfl) (gK af))
   (@ah _ _ _ _ _ (aP (i:=7) gL.nd rfl (Or.inl rfl) (Ad uX aj))
   (@ah _ _ _ _ _ (fZ PassesOwn.never rfl (dU (pv 5)) (aZ (i:=8) gL.nd rfl (Or.inl rfl))
   (@ah _ _ _ _ _ (aP (i:=7) gL.nd rfl (Or.inl rfl) (aS (yv rfl) rfl T.min (by decide +kernel) (ae (aI cS (aI fO (pv 8) aj) aj) (ae (aI dF (pv 7) aj) af))))
   (@ai _ _ _ (dk (qI PySem.F.plainAttrs_list PySem.F.slot_list_append PySem.F.type_list_append gk (pv 6) (ae (i9 (ae (bo cx (pv 4) (aI cS (pv 8) (aS bE rfl T.len PySem.boot_len (ae (pv 4) af))) (fun _ _=>rfl)) (ae (pv 7) af))) af))))))
   (@ai _ _ _ (aK (pv 6))))))
   aV)
   (@ah _ _ _ _ _ (aP (i:=9) gL.nd rfl (Or.inl rfl) (aI dF aj (aI cS (pv 3) aj)))
   (@ah _ _ _ _ _ (aP (i:=10) gL.nd rfl (Or.inl rfl) (gK af))
   (@ah _ _ _ _ _ (fZ PassesOwn.never rfl (jV rfl T.range (ae (aI fO (pv 3) (pv 9)) af)) (aZ (i:=11) gL.nd rfl (Or.inl rfl))
   (@ai _ _ _ (dk (qI PySem.F.plainAttrs_list PySem.F.slot_list_append PySem.F.type_list_append gk (pv 10) (ae (fP (own:=["_law_cell"]) (cap:=["_law_names_here"]) (ix:=[4]) rfl (show br ["_law_script","_law_begin","_law_kind","_law_many","_law_names_here","_law_cells","_law_nodes","_law_deep","_law_cell","_law_wide","_law_lines","_law_k"] (ar ju) _ ["_law_cell"] ["_law_names_here"] [4] from ⟨rfl,by decide +kernel,by decide +kernel,by decide +kernel,by decide +kernel,by decide +kernel,by decide +kernel,rfl,by decide +kernel⟩) (dU (ky sR (pv 5) (mH (aI tO (pv 11) (pv 9))) (mH (aI dF (aI tO (pv 11) (pv 9)) (pv 9))))) (fun C s₀ H₀ ex pn=>⟨aZ (i:=0) (show (["_law_cell","_law_names_here"]:List Str).Nodup by decide +kernel) rfl (Or.inl rfl),fh,(bo (show GX _ (rIxL K) from cx) (pv 1) (aI cS (pv 0) (aS (show gH _ (.builtin "len") (rLenL K) from bE) rfl T.len PySem.boot_len (ae (pv 1) af))) (fun _ _=>rfl))⟩)) af)))))
   (@ai _ _ _ (aK (pv 10))))))))),?_⟩
  have pick:∀ i:Int,∃ z,d6 z=true∧qr (zs.map V.str) (i % (zs.length:Int))=some (.str z):=fun i=>by
   obtain⟨v,hv,_,e⟩:=yy (xs:=zs.map V.str) (i:=i) (m:=(zs.length:Int)) (by omega) (by rw[List.length_map];exact Int.le_refl _)
   obtain⟨z,Rb,rfl⟩:=List.mem_map.mp hv
   exact⟨z,hz z Rb,e⟩
  have lz:(((zs.map V.str).length:Nat):Int)=(zs.length:Int):=by rw[List.length_map]
  have intAt:∀ {cs:List Int}{i:Nat}{y:V},(cs.map V.int)[i]? = some y→∃ c0:Int,y=.int c0:=fun {cs i y} h=>by
   obtain⟨c0,_,rfl⟩:=List.mem_map.mp (List.mem_of_getElem? h)
   exact⟨c0,rfl⟩
  have allM:∀ {ws:List Str},(∀ z∈ws,d6 z=true)→(ws.map V.str).all markV=true:=fun {ws} h=>List.all_eq_true.mpr fun x hx=>by
   obtain⟨z,hz,rfl⟩:=List.mem_map.mp hx
   exact h z hz
  refine ak fun B hB=>?_
  and_intros
  refine Hl (lo:=0) (n:=m) (H1:=H) (fun R r=>⟨_,rfl,m,rfl,by omega,by omega,r⟩) (fun i ys H'=>H'=H∧∃ cs:List Int,ys=cs.map V.int∧cs.length=i) ⟨rfl,[],rfl,rfl⟩ ?_ ?_
  ·rintro i ys H' R hi ⟨rfl,cs,rfl,hc⟩ hR
   simp only[wQ]
   and_intros
   exact⟨a,ns,b+i,by rw[show ((b:Int)+(0+(i:Int)))=((b+i:Nat):Int) by omega],hS,fun c0=>⟨by rw[List.length_map];exact ay (by omega),hR _ _ ⟨rfl,cs++[c0],by rw[List.map_append];rfl,by rw[List.length_append,hc];rfl⟩⟩⟩
  rintro ys H1 ⟨rfl,cs,rfl,hc⟩
  refine⟨by rw[List.length_map];exact Nat.le_of_lt (ay (by omega)),fun cl Fe=>?_⟩
  have sc:=aq.put (o:=.lst (cs.map V.int)) Fe
  have fc:(upd H1 cl (.lst (cs.map V.int))) cl=some (.lst (cs.map V.int)):=ag
  generalize (upd H1 cl (.lst (cs.map V.int)))=H2 at sc fc ⊢
  have N9:=sc _ _ N8
  subst hB
  refine ak fun B hB=>?_
  and_intros
  refine fz (fun h0=>?_) fun h0=>?_
  ·refine fi (K:=K) (a:=cl) (xs:=cs.map V.int) (H1:=H2) (fun R r=>⟨_,rfl,cl,rfl,⟨_,bA.of fc⟩,r⟩) (fun i ys H'=>H'=H2∧∃ ws:List Str,ys=ws.map V.str∧ws.length=i∧∀ z∈ws,d6 z=true) ⟨rfl,[],rfl,rfl,fun _ z=>nomatch z⟩ (fun i ys H' _ ⟨e,_⟩=>e▸bA.of fc) ?_ ?_
   ·rintro i y ys H' R hy ⟨rfl,ws,rfl,hw,IM⟩ hR
    obtain⟨c0,rfl⟩:=intAt hy
    have hi:=(List.getElem?_eq_some_iff.mp hy).1
    rw[List.length_map] at hi
    simp only[wQ]
    and_intros
    obtain⟨z,Lp,ez⟩:=pick c0
    refine⟨_,bA.of N9,by rw[lz];omega,_,bA.of N9,_,by rw[lz];exact ez,by rw[List.length_map];exact ay (by omega),hR _ _ ⟨rfl,ws++[z],by rw[List.map_append];rfl,by rw[List.length_append,hw];rfl,fun y L1=>?_⟩⟩
    rcases List.mem_append.mp L1 with h | h
    ·exact IM y h
    ·rw[List.mem_singleton.mp h];exact Lp
   ·rintro ys H' ⟨rfl,ws,rfl,hw,IM⟩
    rw[List.length_map] at hw
    refine⟨by rw[List.length_map];exact Nat.le_of_lt (ay (by omega)),fun l hl=>k l (.row (ws.map V.str)) _ (sc.upd hl) ag h0.symm ⟨allM IM,by rw[List.length_map];omega⟩⟩
  subst hB
  refine ak fun B hB=>?_
  and_intros
  refine fz (fun h1=>?_) fun h1=>?_
  ·refine⟨by decide,fun l hl=>?_⟩
   have s3:=sc.upd (o:=.lst []) hl
   have Sh:=aq.put (o:=.lst []) hl
   have f3:(upd H2 l (.lst [])) l=some (.lst []):=ag
   generalize (upd H2 l (.lst []))=H3 at s3 f3 Sh ⊢
   have WW:H2 l=none:=hl
   refine (show tN _ _ _ _ _ _ from ?_)
   refine (show iList _ _ _ _ _ from ?_)
   refine⟨_,rfl,cl,rfl,⟨_,bA.of (Sh _ _ fc)⟩,jQ (xs:=cs.map V.int) (fun i σ H'=>aq H2 H'∧∃ (xs:List V) (nd:List Nd) (dp:Int),H' l=some (.lst xs)∧aO H' xs nd∧dG 0 nd∧nd.length=i ∧ -1≤dp∧gn 0 nd=min (dp+1) 12∧∃ o8:Option V,bx σ [some (.ref a),some (.int b),some (.int kd),some (.int m),some (.ref nl),some (.ref cl),some (.ref l),some (.int dp),o8,none,none,none]) ⟨Sh,[],[],-1,f3,trivial,trivial,rfl,Int.le_refl _,rfl,none,bx.rfl⟩ (fun i σ H' _ ⟨e,_⟩=>bA.of (e _ _ fc)) ?_ ?_⟩
   ·rintro i y σ H' hy ⟨s4,xs,nd,dp,yH,OD,WX,MI,d1,Ya,o8,rfl⟩
    obtain⟨c0,rfl⟩:=intAt hy
    have hi:=(List.getElem?_eq_some_iff.mp hy).1
    rw[List.length_map] at hi
    refine ak fun B2 yJ=>?_
    and_intros
    have e0:=Int.emod_nonneg (c0 / 5) (show (13:Int)≠0 by decide)
    have e1:=Int.emod_lt_of_pos (c0 / 5) (show (0:Int)<13 by decide)
    obtain⟨d',ed,p0,p1,p2⟩:∃ d':Int,(if dp+1<c0 / 5 % 13 then dp+1 else c0 / 5 % 13)=d'∧0≤d'∧d'≤12∧d'≤dp+1:=by
     by_cases h:dp+1<c0 / 5 % 13
     ·rw[if_pos h];exact⟨_,rfl,by omega,by omega,by omega⟩
     ·rw[if_neg h];exact⟨_,rfl,by omega,by omega,by omega⟩
    rw[ed]
    obtain⟨z,Lp,ez⟩:=pick c0
    have lx:=OD.length
    subst yJ
    and_intros
    refine⟨.inl ⟨rfl,_,bA.of yH⟩,_,bA.of (s4 _ _ N9),by rw[lz];omega,_,bA.of (s4 _ _ N9),_,by rw[lz];exact ez,by decide,fun p hp=>?_⟩
    have sp:=aq.put (o:=.tup [.str z,.int d']) hp
    have fp:(upd H' p (.tup [.str z,.int d'])) p=some (.tup [.str z,.int d']):=ag
    generalize (upd H' p (.tup [.str z,.int d']))=H5 at sp fp ⊢
    have nT:aO (upd H5 l (.lst (xs++[.ref p]))) (xs++[.ref p]) (nd++[(z,d')]):=by
     have q:=(OD.same sp).append (ys:=[.ref p]) (ms:=[(z,d')]) ⟨⟨p,rfl,fp⟩,trivial⟩
     exact q.iz fun b ys e=>by rw[aF (uE e (sp _ _ yH) fun z=>nomatch z)];exact e
    refine⟨xs,sp _ _ yH,ay (by omega),kf (s4.trans sp) WW,_,ag,_,nT,gb.mpr ⟨WX,Lp,p0,by rw[Ya];show d'≤min (dp+1) 12;omega,trivial⟩,by rw[List.length_append,MI];rfl,d',by omega,?_,_,bx.rfl⟩
    rw[ja]
    rfl
   rintro σ H' ⟨s4,xs,nd,dp,yH,OD,WX,MI,d1,Ya,o8,rfl⟩
   dsimp only
   and_intros
   rw[List.length_map] at MI
   exact k l (.bJ nd) H' (sc.trans s4) ⟨xs,yH,OD⟩ h1.symm ⟨WX,by omega⟩
  have ZA:kd=2:=by omega
  subst hB
  refine ak fun B hB=>?_
  and_intros
  obtain⟨w,ew,w1,w4⟩:∃ w:Nat,1+(m:Int) % 4=(w:Int)∧1≤w∧w≤4:=⟨1+m % 4,by omega,by omega,by omega⟩
  rw[ew]
  subst hB
  refine ak fun B hB=>?_
  and_intros
  refine⟨by decide,fun l hl=>?_⟩
  have Sh:=aq.put (o:=.lst []) hl
  have f3:(upd H2 l (.lst [])) l=some (.lst []):=ag
  generalize (upd H2 l (.lst []))=H3 at f3 Sh ⊢
  subst hB
  refine ak fun B hB=>?_
  have ediv:(m:Int) / (w:Int)=((m / w:Nat):Int):=rfl
  have ZC:m / w*w≤m:=Nat.div_mul_le_self m w
  have ZD:m / w≤m:=Nat.div_le_self m w
  generalize m / w=un at ediv ZC ZD
  refine (show tN _ _ _ _ _ _ from ?_)
  refine (show iRng1 _ _ _ _ from ?_)
  refine mw (fun J H4=>H4=H3∧J=Fz 0 un) (fun G hG=>?_) ?_
  ·and_intros
   have:=hG _ _ ⟨rfl,rfl⟩
   refine⟨by omega,by omega,?_⟩
   rw[ediv]
   refine⟨by omega,by omega,?_⟩
   rw[Int.toNat_natCast]
   exact this
  rintro _ H4 ⟨Ua,rfl⟩
  subst Ua
  refine i8 (n:=un) (fun i σ H'=>aq H2 H'∧∃ (ys:List V) (ls:List (List V)),H' l=some (.lst ys)∧aN .lst H' ys ls∧NotIn l ys∧ls.length=i∧(∀ x∈ls,qw w x)∧∃ Pg:Option V,bx σ [some (.ref a),some (.int b),some (.int kd),some (.int m),some (.ref nl),some (.ref cl),none,none,none,some (.int w),some (.ref l),Pg]) ⟨Sh,[],[],f3,trivial,NotIn.nil,rfl,(fun _ z=>nomatch z),none,bx.rfl⟩ ?_ ?_
  ·rintro i σ H' hi ⟨s4,ys,ls,yH,hr,MI,PJ,OS,Pg,rfl⟩
   and_intros
   have hiw:i*w+w≤m:=by
    have:=Nat.mul_le_mul_right w (show i+1≤un from hi)
    rw[Nat.add_mul,Nat.one_mul] at this
    omega
   refine⟨.inl ⟨rfl,_,bA.of yH⟩,?_⟩
   refine HS (K:=K) (fun p1 H1=>aq H' H1∧H1 p1=some (.lst (((cs.drop (i*w)).take w).map V.int))) (fun R r=>?_) (fun p1 H1 ⟨s5,h5⟩=>?_)
   ·and_intros
    refine⟨.inl ⟨by omega,by omega⟩,.inl ⟨by omega,by omega⟩,_,bA.of (s4 _ _ fc),fun p hp=>?_⟩
    rw[NX (a:=i*w) (s:=w) (by rw[Int.zero_add,Int.natCast_mul]) (by rw[Int.zero_add,Int.natCast_add,Int.natCast_mul]) (by rw[List.length_map];omega),←List.map_drop,←List.map_take]
    exact⟨⟨_,bA.of ag⟩,r _ _ ⟨aq.put hp,ag⟩⟩
   refine fi (K:=K) (a:=p1) (xs:=((cs.drop (i*w)).take w).map V.int) (H1:=H1) (fun R r=>r) (fun i5 JN H6=>H6=H1∧∃ ws:List Str,JN=ws.map V.str∧ws.length=i5∧∀ z∈ws,d6 z=true) ⟨rfl,[],rfl,rfl,fun _ z=>nomatch z⟩ (fun i ys H' _ ⟨e,_⟩=>e▸bA.of h5) ?_ ?_
   ·rintro i5 y JN H6 R hy ⟨rfl,ws,rfl,hw,IM⟩ hR
    obtain⟨c0,rfl⟩:=intAt hy
    have ZE:=(List.getElem?_eq_some_iff.mp hy).1
    rw[List.length_map,List.length_take] at ZE
    simp only[wQ]
    and_intros
    have Ub:=s5 _ _ (s4 _ _ N9)
    obtain⟨z,Lp,ez⟩:=pick c0
    refine⟨_,bA.of Ub,by rw[lz];omega,_,bA.of Ub,_,by rw[lz];exact ez,by rw[List.length_map];exact ay (by omega),hR _ _ ⟨rfl,ws++[z],by rw[List.map_append];rfl,by rw[List.length_append,hw];rfl,fun y L1=>?_⟩⟩
    rcases List.mem_append.mp L1 with h | h
    ·exact IM y h
    ·rw[List.mem_singleton.mp h];exact Lp
   ·rintro JN H6 ⟨rfl,ws,rfl,hw,IM⟩
    rw[List.length_map,List.length_take,List.length_drop] at hw
    have lw:ws.length=w:=by omega
    refine⟨by rw[List.length_map];exact Nat.le_of_lt (ay (by omega)),fun q hq=>?_⟩
    have s6:=aq.put (o:=.lst (ws.map V.str)) hq
    have f6:(upd H6 q (.lst (ws.map V.str))) q=some (.lst (ws.map V.str)):=ag
    generalize (upd H6 q (.lst (ws.map V.str)))=H7 at s6 f6 ⊢
    have lA:=s5 _ _ yH
    have ql:q≠l:=Ne.symm (aG lA hq)
    have rr:=((hr.same (s5.trans s6)).append (ys:=[.ref q]) (ms:=[ws.map V.str]) ⟨⟨q,rfl,f6⟩,trivial⟩).VU (o:=.lst (ys++[.ref q])) (MI.add ql)
    have lr:=hr.length
    refine⟨_,s6 _ _ lA,ay (by omega),kf ((s4.trans s5).trans s6) hl,_,ag,_,rr,MI.add ql,by rw[List.length_append,PJ];rfl,fun x hx=>?_,_,bx.rfl⟩
    rcases List.mem_append.mp hx with h | h
    ·exact OS x h
    ·rw[List.mem_singleton.mp h];exact⟨by rw[List.length_map];exact lw,allM IM⟩
  rintro σ H' ⟨s4,ys,ls,yH,hr,MI,PJ,OS,Pg,rfl⟩
  dsimp only
  subst hB
  and_intros
  exact k l (.table ls (yL ls)) H' (sc.trans s4) ⟨ys,yH,hr,rfl⟩ ZA.symm (NW (by omega) OS (by omega))
theorem EX {f:Addr}{fd:FuncData} (D:Def K mg "_law_thing" lj ["_law_kind","_law_data_here"] f fd) (T:Txt K mg ad) {iT:Addr}{kR:FuncData} (pq:av P w K mg base (oP P w) 3 iT kR ["self","marks"] (sY ad)) {fb:Addr}{ie:FuncData} (j7:av P w K mg base (oP P w) 4 fb ie ["self","nodes"] (n6 ad)) {fW:Addr}{iW:FuncData} (lO:av P w K mg base (oP P w) 4 fW iW ["self","lines"] (pN ad)) (px:Binds K kR ["self","marks"] []) (j8:Binds K ie ["self","nodes"] []) (lP:Binds K iW ["self","lines"] []) (Fw:Mk K ad.Row iT) (uN:Mk K ad.cF fb) (yC:Mk K ad.Table fW):av P w K mg base bw 6 f fd ["_law_kind","_law_data_here"] (ud ad):=by
 refine D.F.ok EG (fun vs H Q E h=>?_) (fun gJ A outer s H vs Q E hr h=>?_)
 ·obtain⟨l0,d,rfl,_⟩:=h
  rfl
 ·obtain⟨l0,d,rfl,Rw,dO,k⟩:=h
  refine⟨_,(@ah _ _ _ _ _ (cE (aL dS (pv 0) aj (aQ _))
   (@ai _ _ _ (aK (ke Fw pq (hr.mono (by decide)) rfl T.PQ px .nil cV (ae (fw u6 rfl T.list PyProof.Rows.boot_list (ae (pv 1) af)) af))))
   aV)
   (@ah _ _ _ _ _ (cE (aL dS (pv 0) aj (aQ _))
   (@ai _ _ _ (aK (ke uN j7 (hr.mono (by decide)) rfl T.Ih j8 .nil cV (ae (fw u6 rfl T.list PyProof.Rows.boot_list (ae (pv 1) af)) af))))
   aV)
   (@ai _ _ _ (aK (ke yC lO (hr.mono (by decide)) rfl T.Lr lP .nil cV (ae (fP (own:=["_law_line"]) (cap:=[]) (ix:=[]) rfl (show br ["_law_kind","_law_data_here"] (ar lj) _ ["_law_line"] [] [] from ⟨rfl,by decide +kernel,by decide +kernel,by decide +kernel,by decide +kernel,by decide +kernel,by decide +kernel,rfl,by decide +kernel⟩) (dU (pv 1)) (fun C s₀ H₀ ex pn=>⟨aZ (i:=0) (show (["_law_line"]:List Str).Nodup by decide +kernel) rfl (Or.inl rfl),fh,(fw (show gH _ (.type "list") (rListL K) from u6) rfl T.list PyProof.Rows.boot_list (ae (pv 0) af))⟩)) af)))))),?_⟩
  and_intros
  cases d with
  | row xs =>
   have h2:H l0=some (.lst xs):=Rw
   refine (show if (0:Int)=0 then _ else _ from ?_)
   rw[if_pos rfl]
   refine⟨_,bA.of h2,fun l hl x dx hx vp sN=>?_⟩
   have s3:=aq.put (o:=.lst xs) hl
   have f3:(upd H l (.lst xs)) l=some (.lst xs):=ag
   generalize (upd H l (.lst xs))=H3 at s3 f3 hx vp ⊢
   have A2:aq H3 (upd (upd H3 dx (.own x)) x (.ins ad.Row dx [])):=(aq.put vp).upd (by rw[aF (Ne.symm sN)];exact hx)
   refine⟨x,dx,.ref l,rfl,ag,Ai (A2 _ _ f3) (Dh dO.1),fun a' GZ e h _ _ H8 IE sb=>⟨rfl,?_⟩,fun hb=>absurd ⟨l,_,rfl,A2 _ _ f3,dO.2,dO.1⟩ hb⟩
   cases e
   rw[A2 _ _ f3] at h
   cases h
   exact k x H8 (s3.trans fun b o e=>sb b o (aG e hx) (A2 b o e)) IE
  | bJ ns =>
   obtain⟨ys,h2,h3⟩:=Rw
   have hlen:=h3.length
   refine (show if (1:Int)=0 then _ else if (1:Int)=1 then _ else _ from ?_)
   rw[if_neg (by decide),if_pos rfl]
   refine⟨_,bA.of h2,fun l hl x dx hx vp sN=>?_⟩
   have s3:=aq.put (o:=.lst ys) hl
   have f3:(upd H l (.lst ys)) l=some (.lst ys):=ag
   generalize (upd H l (.lst ys))=H3 at s3 f3 hx vp ⊢
   have n8:∀ n∈ns,n.1.length≤1000:=fun n h=>by have:=(Aj (nq dO.1 n h).1).2.1;omega
   have A2:aq H3 (upd (upd H3 dx (.own x)) x (.ins ad.cF dx [])):=(aq.put vp).upd (by rw[aF (Ne.symm sN)];exact hx)
   have Nl:=(h3.same s3).same A2
   refine⟨x,dx,.ref l,rfl,ag,Hq (A2 _ _ f3) (Nl.Nt n8),fun a' GZ Zt e h _ Lk _ H8 Ru sb=>⟨rfl,?_⟩,fun hb=>absurd ⟨l,_,_,rfl,A2 _ _ f3,by have:=dO.2;omega,Nl,dO.1⟩ hb⟩
   cases e
   rw[A2 _ _ f3] at h
   cases h
   have:=Lk.uniq Nl
   subst this
   exact k x H8 (s3.trans fun b o e=>sb b o (aG e hx) (A2 b o e)) ⟨Ru,dO.1,dO.2⟩
  | table ls w =>
   obtain⟨ys,h2,h3,h4⟩:=Rw
   have hlen:=h3.length
   have X4:=dO.2.1
   refine (show if (2:Int)=0 then _ else if (2:Int)=1 then _ else _ from ?_)
   rw[if_neg (by decide),if_neg (by decide)]
   refine fi (K:=K) (a:=l0) (xs:=ys) (H1:=H) (fun R rr=>?_) (fun i zs H'=>aq H H'∧aN .lst H' zs (ls.take i)) ⟨aq.refl H,by rw[List.take_zero];trivial⟩ (fun i zs H' _ ⟨e,_⟩=>bA.of (e _ _ h2)) ?_ ?_
   ·and_intros
    exact⟨⟨_,bA.of h2⟩,rr⟩
   ·rintro i y zs H' R hy ⟨s1,r1⟩ hR
    obtain⟨l1,e1,q,rfl,hq⟩:=h3.get hy
    have L1:=r1.length
    rw[List.length_take] at L1
    simp only[wQ]
    and_intros
    refine⟨_,bA.of (s1 _ _ hq),fun p hp=>⟨ay (by omega),hR _ _ ⟨s1.upd hp,?_⟩⟩⟩
    rw[List.take_add_one,e1]
    exact (r1.same (aq.put hp)).append ⟨⟨p,rfl,ag⟩,trivial⟩
   rintro zs H' ⟨s1,r1⟩
   rw[hlen,List.take_length] at r1
   have hlz:=r1.length
   refine⟨Nat.le_of_lt (ay (by omega)),fun l hl x dx hx vp sN=>?_⟩
   have s3:=s1.upd (o:=.lst zs) hl
   have f3:(upd H' l (.lst zs)) l=some (.lst zs):=ag
   have r3:=r1.same (aq.put (o:=.lst zs) hl)
   generalize (upd H' l (.lst zs))=H3 at s3 f3 r3 hx vp ⊢
   have A2:aq H3 (upd (upd H3 dx (.own x)) x (.ins ad.Table dx [])):=(aq.put vp).upd (by rw[aF (Ne.symm sN)];exact hx)
   have Rt:=r3.same A2
   have ZF:BY ls:=⟨w,dO.1,dO.2.2⟩
   have XZ:∀ l∈ls,l.all markV=true:=fun l hl=>(dO.2.2 l hl).2
   refine⟨x,dx,.ref l,rfl,ag,⟨.lst (A2 _ _ f3),fun a' GZ e h y hy=>?_⟩,fun a' GZ N6 e h _ Lk _ H8 Uc sb=>⟨rfl,?_⟩,fun hb=>absurd ⟨l,_,_,rfl,A2 _ _ f3,by omega,Rt,ZF⟩ hb⟩
   ·cases e
    rw[A2 _ _ f3] at h
    cases h
    exact Rt.Tb XZ y hy
   cases e
   rw[A2 _ _ f3] at h
   cases h
   have:=Lk.uniq Rt
   subst this
   rw[←h4] at Uc
   exact k x H8 (s3.trans fun b o e=>sb b o (aG e hx) (A2 b o e)) Uc
theorem EY {f:Addr}{fd:FuncData} (D:Def K mg "_law_spots" iB ["_law_kind","_law_data_here"] f fd) (T:Txt K mg ad):av P w K mg base bw 1 f fd ["_law_kind","_law_data_here"] mB:=by
 refine D.F.ok pM (fun vs H Q E h=>?_) (fun gJ A outer s H vs Q E hr h=>?_)
 ·obtain⟨l,d,rfl,_⟩:=h
  rfl
 ·obtain⟨l,d,rfl,hd,dO,k⟩:=h
  refine⟨_,(@ah _ _ _ _ _ (cE (aL dS (pv 0) aj (aQ _))
   (@ai _ _ _ (aK (fw u6 rfl T.list PyProof.Rows.boot_list (ae (pv 1) af))))
   aV)
   (@ah _ _ _ _ _ (cE (aL dS (pv 0) aj (aQ _))
   (@ai _ _ _ (aK (fP (own:=["_law_mark","_law_deep"]) (cap:=[]) (ix:=[]) rfl (show br ["_law_kind","_law_data_here","_law_found","_law_line"] (ar iB) _ ["_law_mark","_law_deep"] [] [] from ⟨rfl,by decide +kernel,by decide +kernel,by decide +kernel,by decide +kernel,by decide +kernel,by decide +kernel,rfl,by decide +kernel⟩) (dU (pv 1)) (fun C s₀ H₀ ex pn=>⟨(show PG _ _ (gTup K 2 (gCons (gName 0) (gCons (gName 1) gNil))) from Jx (i:=0) (j:=1) rfl (show (["_law_mark","_law_deep"]:List Str).Nodup by decide +kernel) rfl rfl (Or.inl rfl) (Or.inl rfl)),fh,(pv 0)⟩))))
   aV)
   (@ah _ _ _ _ _ (aP (i:=2) pM.nd rfl (Or.inl rfl) (gK af))
   (@ah _ _ _ _ _ (fZ PassesOwn.never rfl (dU (pv 1)) (aZ (i:=3) pM.nd rfl (Or.inl rfl))
   (@ai _ _ _ (aP (i:=2) pM.nd rfl (Or.inl rfl) (aI Ji (pv 2) (pv 3)))))
   (@ai _ _ _ (aK (pv 2))))))),?_⟩
  refine ak fun B hB=>?_
  and_intros
  cases d with
  | row xs =>
   have h2:H l=some (.lst xs):=hd
   rw[show eE (.row xs)=0 from rfl,if_pos rfl]
   exact⟨_,bA.of h2,fun p hp=>k p _ (aq.put hp) ag⟩
  | bJ ns =>
   obtain⟨ts,h2,h3⟩:=hd
   rw[show eE (.bJ ns)=1 from rfl,if_neg (by decide)]
   subst hB
   refine ak fun B hB=>?_
   and_intros
   have hlen:=h3.length
   have T3:=dO.2
   refine HR (K:=K) (a:=l) (xs:=ts) (H1:=H) (fun R rr=>⟨_,rfl,l,rfl,⟨_,bA.of h2⟩,rr⟩) (fun i zs H'=>H'=H∧zs=(ns.take i).map fun n=>V.str n.1) ⟨rfl,rfl⟩ (fun i zs H' _ ⟨e,_⟩=>e▸bA.of h2) ?_ ?_
   ·rintro i y zs H' hy ⟨rfl,rfl⟩
    obtain⟨n1,e1,t,rfl,ht⟩:=h3.get hy
    refine⟨t,.str n1.1,.int n1.2,rfl,df.of ht,fun R hR=>?_⟩
    simp only[wQ]
    and_intros
    refine⟨ay (by rw[List.length_map,List.length_take];omega),hR _ _ ⟨rfl,?_⟩⟩
    rw[List.take_add_one,e1,List.map_append]
    rfl
   ·rintro zs H' ⟨rfl,rfl⟩
    rw[hlen,List.take_length]
    exact⟨Nat.le_of_lt (ay (by rw[List.length_map];omega)),fun p hp=>k p _ (aq.put hp) ag⟩
  | table ls w =>
   obtain⟨ys,h2,h3,h4⟩:=hd
   rw[show eE (.table ls w)=2 from rfl,if_neg (by decide)]
   subst hB
   refine ak fun B hB=>?_
   and_intros
   rw[if_neg (by decide)]
   subst hB
   refine ak fun B hB=>?_
   and_intros
   refine⟨by decide,fun l0 WW=>?_⟩
   have s0:=aq.put (o:=.lst []) WW
   have f0:(upd H l0 (.lst [])) l0=some (.lst []):=ag
   generalize (upd H l0 (.lst []))=H0 at s0 f0 ⊢
   subst hB
   refine ak fun B hB=>?_
   refine (show tN _ _ _ _ _ _ from ?_)
   refine (show iList _ _ _ _ _ from ?_)
   have Df:ls.flatten.length≤144:=by rw[Ax dO.2.2];exact Nat.mul_le_mul dO.2.1 dO.1
   refine⟨_,rfl,l,rfl,⟨_,bA.of (s0 _ _ h2)⟩,jQ (xs:=ys) (fun i σ H'=>aq H H'∧∃ (lf:Addr) (o:Option V),H' lf=some (.lst (ls.take i).flatten)∧bx σ [some (.int 2),some (.ref l),some (.ref lf),o]) ⟨s0,l0,none,f0,bx.rfl⟩ (fun i σ H' _ ⟨e,_⟩=>bA.of (e _ _ h2)) ?_ ?_⟩
   ·rintro i y σ H' hy ⟨s1,lf,o,hf,rfl⟩
    obtain⟨l1,e1,q,rfl,hq⟩:=h3.get hy
    have ft:(ls.take (i+1)).flatten=(ls.take i).flatten++l1:=by
     rw[List.take_add_one,e1,List.flatten_append]
     simp
    have fl:(ls.take (i+1)).flatten.length≤ls.flatten.length:=by
     conv=>rhs;rw[←List.take_append_drop (i+1) ls,List.flatten_append,List.length_append]
     omega
    rw[ft,List.length_append] at fl
    and_intros
    refine⟨_,hf,_,s1 _ _ hq,Nat.le_of_lt (ay (by omega)),fun p hp=>⟨s1.upd hp,p,?_,_,bx.rfl⟩⟩
    rw[ag,ft]
   rintro σ H' ⟨s1,lf,o,hf,rfl⟩
   dsimp only
   subst hB
   and_intros
   rw[h3.length,List.take_length] at hf
   exact k lf H' s1 hf
theorem AI {f:Addr}{fd:FuncData} (D:Def K mg "_law_next_deep" g9 ["_law_data_here","_law_i"] f fd) (T:Txt K mg ad):av P w K mg base bw 1 f fd ["_law_data_here","_law_i"] kn:=by
 refine D.F.ok nX (fun vs H Q E h=>?_) (fun gJ A outer s H vs Q E hr h=>?_)
 ·obtain⟨l,ns,i,rfl,_⟩:=h
  rfl
 ·obtain⟨l,ns,i,rfl,hd,hi,hn,k⟩:=h
  refine⟨_,(@ah _ _ _ _ _ (aP (i:=2) nX.nd rfl (Or.inl rfl) (aI dF (pv 1) aj))
   (@ah _ _ _ _ _ (CZ PassesOwn.never (PW.pt (pw_and (aL wK (pv 2) (aS bE rfl T.len PySem.boot_len (ae (pv 0) af)) (aQ _)) (pw_and1 (aL wL (bo cT (bo cx (pv 0) (pv 2) (fun _ _=>rfl)) aj (fun _ _=>rfl)) (bo cT (bo cx (pv 0) (pv 1) (fun _ _=>rfl)) aj (fun _ _=>rfl)) (aQ _)))))
   (@ai _ _ _ (aP (i:=2) nX.nd rfl (Or.inl rfl) (aI dF (pv 2) aj))))
   (@ai _ _ _ (aK (pv 2))))),?_⟩
  obtain⟨xs,h3,h4⟩:=hd
  have hlen:=h4.length
  refine ak fun B hB=>?_
  and_intros
  subst hB
  refine ak fun B hB=>?_
  and_intros
  have TR:ns[i]? = some ns[i]:=List.getElem?_eq_getElem hi
  have eD:(ns.getD i ("",0)).2=ns[i].2:=by rw[List.getD_eq_getElem?_getD,TR];rfl
  have tl:=yA ns i
  obtain⟨n0,N3,t0,Cu,EL⟩:=h4.get (List.getElem?_eq_getElem (by omega:i<xs.length))
  have e0:qr xs (i:Int)=some (.ref t0):=by rw[←Cu];exact bT (List.getElem?_eq_getElem (by omega))
  rw[TR] at N3
  cases N3
  refine⟨fun m σ H'=>H'=H∧∃ j:Nat,j+m=bH ns i∧bx σ [some (.ref l),some (.int (i:Nat)),some (.int ((i:Int)+1+(j:Int)))],⟨bH ns i,rfl,0,by omega,by rw[show (i:Int)+1+((0:Nat):Int)=(i:Int)+1 by omega];exact bx.rfl⟩,?_⟩
  rintro m σ H' ⟨rfl,j,hj,rfl⟩
  and_intros
  have fin:j=bH ns i→B ({ nx:=fun _ H'=>Q .cU H',rt:=Q }:Ends) [some (.ref l),some (.int (i:Nat)),some (.int ((i:Int)+1+(j:Int)))] H':=fun e=>by
   subst hB
   and_intros
   rw[show (i:Int)+1+(j:Int)=((i+bH ns i+1:Nat):Int) by omega]
   exact k
  have nx:∀ {j:Nat}{n:Nd},j≤bH ns i→ns[i+1+j]? = some n→(ns[i].2<n.2↔j<bH ns i):=fun {j n} hj hn=>by
   rcases Nat.lt_or_ge j (bH ns i) with h | h
   ·obtain⟨n',h1,h2⟩:=CS h
    rw[hn] at h1
    cases h1
    rw[eD] at h2
    exact⟨fun _=>h,fun _=>h2⟩
   ·have ej:j=bH ns i:=by omega
    subst ej
    have:=Bd hn
    rw[eD] at this
    exact⟨fun h=>absurd h this,fun h=>absurd h (Nat.lt_irrefl _)⟩
  refine⟨_,bA.of h3,fz (fun qt=>?_) fun qt=>?_⟩
  ·obtain⟨n1,MK,t1,Rn,JL⟩:=h4.get (List.getElem?_eq_getElem (by omega:i+1+j<xs.length))
   have e1:qr xs ((i:Int)+1+(j:Int))=some (.ref t1):=by
    rw[←Rn,show ((i:Int)+1+(j:Int))=((i+1+j:Nat):Int) by omega]
    exact bT (List.getElem?_eq_getElem (by omega))
   have Yb:=nx (by omega) MK
   refine⟨_,bA.of h3,_,e1,t1,rfl,_,df.of JL,_,rfl,_,bA.of h3,_,e0,t0,rfl,_,df.of EL,_,rfl,_,rfl,_,rfl,fz (fun hx=>?_) fun hx=>?_⟩
   ·have Zh:=Yb.mp hx
    refine⟨fun σ' H1=>H1=H'∧bx σ' [some (.ref l),some (.int (i:Nat)),some (.int ((i:Int)+1+((j+1:Nat):Int)))],fun σ' H1 ⟨e2,e3⟩=>⟨m-1,by omega,e2,j+1,by omega,e3⟩,rfl,?_⟩
    rw[show (i:Int)+1+(j:Int)+1=(i:Int)+1+((j+1:Nat):Int) by omega]
    exact bx.rfl
   ·have:¬ j<bH ns i:=fun h=>hx (Yb.mpr h)
    exact fin (by omega)
  ·have:¬ j<bH ns i:=fun h=>by
    obtain⟨n',h1,_⟩:=CS h
    have:=(List.getElem?_eq_some_iff.mp h1).1
    omega
   exact fin (by omega)
theorem EZ {f:Addr}{fd:FuncData} (D:Def K mg "_law_pairs" nU ["_law_kind","_law_data_here","_law_word"] f fd) (T:Txt K mg ad) {dZ:Addr}{ff:FuncData} (gQ:av P w K mg base bw 1 dZ ff ["_law_kind","_law_data_here"] mB) {c6:Addr}{fv:FuncData} (fM:av P w K mg base bw 1 c6 fv ["_law_data_here","_law_i"] kn) (cJ:Def K mg "_law_spots" iB ["_law_kind","_law_data_here"] dZ ff) (bL:Def K mg "_law_next_deep" g9 ["_law_data_here","_law_i"] c6 fv):av P w K mg base bw 2 f fd ["_law_kind","_law_data_here","_law_word"] uc:=by
 refine D.F.ok eA (fun vs H Q E h=>?_) (fun gJ A outer s H vs Q E hr h=>?_)
 ·obtain⟨l,d,w,rfl,_⟩:=h
  rfl
 ·obtain⟨l,d,w,rfl,hd,dO,hw,k⟩:=h
  refine⟨_,(@ah _ _ _ _ _ (aP (i:=3) eA.nd rfl (Or.inl rfl) (aT gQ (hr.mono (by decide)) rfl cJ.mg cJ.F.kp cJ.b .nil aA (ae (pv 0) (ae (pv 1) af))))
   (@ah _ _ _ _ _ (aP (i:=4) eA.nd rfl (Or.inl rfl) (gK af))
   (@ah _ _ _ _ _ (fZ PassesOwn.never rfl (jV rfl T.range (ae (aS bE rfl T.len PySem.boot_len (ae (pv 3) af)) af)) (aZ (i:=5) eA.nd rfl (Or.inl rfl))
   (@ai _ _ _ (fZ PassesOwn.never rfl (E5 rfl T.range (ae (aI dF (pv 5) aj) (ae (aS bE rfl T.len PySem.boot_len (ae (pv 3) af)) af))) (aZ (i:=6) eA.nd rfl (Or.inl rfl))
   (@ah _ _ _ _ _ (aP (i:=7) eA.nd rfl (Or.inl rfl) (kc dS (pv 2) bI (aQ _)))
   (@ah _ _ _ _ _ (cE (PW.pt (pw_and (aL dS (pv 0) aj (aQ _)) (pw_and1 (aL dS (pv 2) bI (aQ _)))))
   (@ai _ _ _ (aP (i:=7) eA.nd rfl (Or.inl rfl) (kc dS (pv 6) (aI dF (pv 5) aj) (aQ _))))
   aV)
   (@ah _ _ _ _ _ (cE (PW.pt (pw_and (aL dS (pv 0) aj (aQ _)) (pw_and1 (aL dS (pv 2) bI (aQ _)))))
   (@ai _ _ _ (aP (i:=7) eA.nd rfl (Or.inl rfl) (kc wK (pv 6) (aT fM (hr.mono (by decide)) rfl bL.mg bL.F.kp bL.b .nil aA (ae (pv 1) (ae (pv 5) af))) (aQ _))))
   aV)
   (@ah _ _ _ _ _ (cE (PW.pt (pw_and (aL dS (pv 0) aj (aQ _)) (pw_and1 (aL dS (pv 2) bI (aQ _)))))
   (@ai _ _ _ (aP (i:=7) eA.nd rfl (Or.inl rfl) (CY (kc dS (pv 6) (aT fM (hr.mono (by decide)) rfl bL.mg bL.F.kp bL.b .nil aA (ae (pv 1) (ae (pv 5) af))) (aQ _)) (CW (kc dS (bo cT (bo cx (pv 1) (pv 6) (fun _ _=>rfl)) aj (fun _ _=>rfl)) (bo cT (bo cx (pv 1) (pv 5) (fun _ _=>rfl)) aj (fun _ _=>rfl)) (aQ _))))))
   aV)
   (@ah _ _ _ _ _ (cE (PW.pt (pw_and (aL dS (pv 0) aj (aQ _)) (pw_and1 (aL dS (pv 2) bI (aQ _)))))
   (@ai _ _ _ (aP (i:=7) eA.nd rfl (Or.inl rfl) (kc dS (aI cS (aI C1 (pv 6) (pv 5)) (aS bE rfl T.len PySem.boot_len (ae (bo cx (pv 1) aj (fun _ _=>rfl)) af))) aj (aQ _))))
   aV)
   (@ah _ _ _ _ _ (cE (PW.pt (pw_and (aL dS (pv 0) aj (aQ _)) (pw_and1 (aL dS (pv 2) bI (aQ _)))))
   (@ai _ _ _ (aP (i:=7) eA.nd rfl (Or.inl rfl) (CY (kc dS (pv 6) (aI dF (pv 5) aj) (aQ _)) (CW (kc wL (aI cS (pv 6) (aS bE rfl T.len PySem.boot_len (ae (bo cx (pv 1) aj (fun _ _=>rfl)) af))) aj (aQ _))))))
   aV)
   (@ai _ _ _ (cE (mS (pv 7))
   (@ai _ _ _ (dk (qI PySem.F.plainAttrs_list PySem.F.slot_list_append PySem.F.type_list_append gk (pv 4) (ae (i9 (ae (bo cx (pv 3) (pv 5) (fun _ _=>rfl)) (ae (bo cx (pv 3) (pv 6) (fun _ _=>rfl)) af))) af))))
   aV)))))))))))
   (@ai _ _ _ (aK (pv 4)))))),?_⟩
  refine ak fun B hB=>?_
  and_intros
  refine⟨l,d,rfl,hd,dO,fun p H1 s1 h1=>?_⟩
  have hN:=Im dO
  have O1:=hd.same s1
  subst hB
  refine ak fun B hB=>?_
  and_intros
  refine⟨by decide,fun f hf=>?_⟩
  have s2:=aq.put (o:=.lst []) hf
  have f2:(upd H1 f (.lst [])) f=some (.lst []):=ag
  generalize (upd H1 f (.lst []))=H2 at s2 f2 ⊢
  subst hB
  refine ak fun B hB=>?_
  refine (show tN _ _ _ _ _ _ from ?_)
  refine (show iRng1 _ _ _ _ from ?_)
  refine mw (fun J H3=>H3=H2∧J=Fz 0 (bj d).length) (fun G' hG=>?_) ?_
  ·and_intros
   exact⟨_,bA.of (s2 _ _ h1),by omega,by omega,hG _ _ ⟨rfl,rfl⟩⟩
  rintro _ H3 ⟨WY,rfl⟩
  subst WY
  refine i8 (n:=(bj d).length) (fun i σ H'=>aq H1 H'∧(∃ ys,H' f=some (.lst ys)∧aN .tup H' ys (t9 d w (Ga (bj d).length i)))∧∃ o5 o6 o7:Option V,bx σ [some (.int (eE d)),some (.ref l),some (.str w),some (.ref p),some (.ref f),o5,o6,o7]) ⟨s2,⟨[],f2,trivial⟩,none,none,none,bx.rfl⟩ ?_ ?_
  ·rintro i σ H' hi ⟨s3,hD,p5,p6,p7,rfl⟩
   and_intros
   refine (show iRng2 _ _ _ _ from ?_)
   refine mw (fun J H4=>H4=H'∧J=Fz ((i:Int)+1) ((bj d).length-(i+1))) (fun G' hG=>?_) ?_
   ·and_intros
    have:=hG _ _ ⟨rfl,rfl⟩
    rw[show (bj d).length-(i+1)=(((bj d).length:Int)-(0+(i:Int)+1)).toNat by omega,show (i:Int)+1=0+(i:Int)+1 by omega] at this
    exact⟨_,bA.of (s3 _ _ h1),by omega,by omega,by omega,by omega,this⟩
   rintro _ H4 ⟨Ua,rfl⟩
   subst Ua
   refine i8 (n:=(bj d).length-(i+1)) (fun j σ H'=>aq H1 H'∧(∃ ys,H' f=some (.lst ys)∧aN .tup H' ys (t9 d w (Ga (bj d).length i++(List.range j).map fun j=>(i,i+1+j))))∧∃ o6 o7:Option V,bx σ [some (.int (eE d)),some (.ref l),some (.str w),some (.ref p),some (.ref f),some (.int (0+(i:Int))),o6,o7]) ⟨s3,by rw[List.range_zero,List.map_nil,List.append_nil];exact hD,_,_,bx.rfl⟩ ?_ ?_
   ·rintro j σ H' hj ⟨s4,⟨ys,LB,PY⟩,p6,p7,rfl⟩
    have Oa:i+1+j<(bj d).length:=by omega
    have Ud:=O1.same s4
    refine ak fun B2 yJ=>?_
    and_intros
    refine NV fun D0 RS=>?_
    dsimp only at RS
    generalize e0:decide (w=Str.ofString "before")=b0
    subst yJ
    refine ak fun B2 yJ=>?_
    suffices fin:∀ b',((eE d=0∧w=Str.ofString "beside")→b'=sP d w i (i+1+j))→(¬ (eE d=0∧w=Str.ofString "beside")→b'=b0)→B2 D0 [some (.int (eE d)),some (.ref l),some (.str w),some (.ref p),some (.ref f),some (.int (0+(i:Int))),some (.int ((i:Int)+1+(j:Int))),some (.bl b')] H' by
     and_intros
     refine fz (fun hk=>fz (fun hx=>?_) fun hx=>fin _ (fun h=>absurd h.2 hx) fun _=>rfl) fun hk=>fin _ (fun h=>absurd h.1 hk) fun _=>rfl
     refine fin _ (fun _=>?_) (fun h=>absurd ⟨hk,hx⟩ h)
     cases d with
     | row xs =>
      rw[hx]
      unfold sP
      rw[if_neg (by decide +kernel)]
      show decide ((i:Int)+1+(j:Int)=0+(i:Int)+1)=(decide (Str.ofString "beside" = Str.ofString "beside")&&decide (i+1+j=i+1))
      rw[decide_eq_true rfl,Bool.true_and]
      exact decide_eq_decide.mpr (by omega)
     | bJ ns=>exact absurd hk (show ¬ (1:Int)=0 by decide)
     | table ls wd=>exact absurd hk (show ¬ (2:Int)=0 by decide)
    intro b1 WM U4
    subst yJ
    refine ak fun B2 yJ=>?_
    suffices fin:∀ b',((eE d=1∧w=Str.ofString "under")→b'=sP d w i (i+1+j))→(¬ (eE d=1∧w=Str.ofString "under")→b'=b1)→B2 D0 [some (.int (eE d)),some (.ref l),some (.str w),some (.ref p),some (.ref f),some (.int (0+(i:Int))),some (.int ((i:Int)+1+(j:Int))),some (.bl b')] H' by
     and_intros
     refine fz (fun hk=>fz (fun hx=>?_) fun hx=>fin _ (fun h=>absurd h.2 hx) fun _=>rfl) fun hk=>fin _ (fun h=>absurd h.1 hk) fun _=>rfl
     cases d with
     | bJ ns =>
      have ZG:(bj (.bJ ns)).length=ns.length:=List.length_map _
      refine⟨l,ns,i,by rw[Int.zero_add],Ud,by omega,dO.2,_,rfl,fin _ (fun _=>?_) (fun h=>absurd ⟨hk,hx⟩ h)⟩
      rw[hx]
      unfold sP
      rw[if_neg (by decide +kernel)]
      show _=if Str.ofString "under" = Str.ofString "under" then decide (i+1+j<i+bH ns i+1) else _
      rw[if_pos rfl]
      exact decide_eq_decide.mpr (by omega)
     | row xs=>exact absurd hk (show ¬ (0:Int)=1 by decide)
     | table ls wd=>exact absurd hk (show ¬ (2:Int)=1 by decide)
    intro b2 ZH Ue
    subst yJ
    refine ak fun B2 yJ=>?_
    suffices fin:∀ b',((eE d=1∧w=Str.ofString "beside")→b'=sP d w i (i+1+j))→(¬ (eE d=1∧w=Str.ofString "beside")→b'=b2)→B2 D0 [some (.int (eE d)),some (.ref l),some (.str w),some (.ref p),some (.ref f),some (.int (0+(i:Int))),some (.int ((i:Int)+1+(j:Int))),some (.bl b')] H' by
     and_intros
     refine fz (fun hk=>fz (fun hx=>?_) fun hx=>fin _ (fun h=>absurd h.2 hx) fun _=>rfl) fun hk=>fin _ (fun h=>absurd h.1 hk) fun _=>rfl
     cases d with
     | bJ ns =>
      have ZG:(bj (.bJ ns)).length=ns.length:=List.length_map _
      obtain⟨U5,MB,T5⟩:=id Ud
      have lt5:=T5.length
      refine⟨l,ns,i,by rw[Int.zero_add],Ud,by omega,dO.2,rfl,fz (fun he=>?_) fun he=>?_⟩
      ·obtain⟨n1,MK,t1,Rn,JL⟩:=T5.get (List.getElem?_eq_getElem (by omega:i+1+j<U5.length))
       have e1:qr U5 ((i:Int)+1+(j:Int))=some (.ref t1):=by
        rw[←Rn,show ((i:Int)+1+(j:Int))=((i+1+j:Nat):Int) by omega]
        exact bT (List.getElem?_eq_getElem (by omega))
       obtain⟨n0,N3,t0,Cu,EL⟩:=T5.get (List.getElem?_eq_getElem (by omega:i<U5.length))
       have Rx:qr U5 (0+(i:Int))=some (.ref t0):=by
        rw[←Cu,Int.zero_add]
        exact bT (List.getElem?_eq_getElem (by omega))
       refine⟨_,bA.of MB,_,e1,t1,rfl,_,df.of JL,_,rfl,_,bA.of MB,_,Rx,t0,rfl,_,df.of EL,_,rfl,rfl,fin _ (fun _=>?_) (fun h=>absurd ⟨hk,hx⟩ h)⟩
       rw[hx]
       unfold sP
       rw[if_neg (by decide +kernel)]
       show _=if Str.ofString "beside" = Str.ofString "under" then _ else decide (i+1+j=i+bH ns i+1)&&decide ((ns.getD (i+1+j) ("",0)).2=(ns.getD i ("",0)).2)
       rw[if_neg (by decide +kernel),decide_eq_true (show i+1+j=i+bH ns i+1 by have:=V.int.inj he;omega),Bool.true_and,List.getD_eq_getElem?_getD,MK,List.getD_eq_getElem?_getD,N3]
       exact decide_eq_decide.mpr ⟨fun h=>V.int.inj h,fun h=>congrArg V.int h⟩
      ·refine fin _ (fun _=>?_) (fun h=>absurd ⟨hk,hx⟩ h)
       rw[hx]
       unfold sP
       rw[if_neg (by decide +kernel)]
       show _=if Str.ofString "beside" = Str.ofString "under" then _ else decide (i+1+j=i+bH ns i+1)&&_
       rw[if_neg (by decide +kernel),decide_eq_false (show ¬ i+1+j=i+bH ns i+1 from fun h=>he (congrArg V.int (by omega))),Bool.false_and]
     | row xs=>exact absurd hk (show ¬ (0:Int)=1 by decide)
     | table ls wd=>exact absurd hk (show ¬ (2:Int)=1 by decide)
    intro b3 WN Si
    subst yJ
    refine ak fun B2 yJ=>?_
    suffices fin:∀ b',((eE d=2∧w=Str.ofString "under")→b'=sP d w i (i+1+j))→(¬ (eE d=2∧w=Str.ofString "under")→b'=b3)→B2 D0 [some (.int (eE d)),some (.ref l),some (.str w),some (.ref p),some (.ref f),some (.int (0+(i:Int))),some (.int ((i:Int)+1+(j:Int))),some (.bl b')] H' by
     and_intros
     refine fz (fun hk=>fz (fun hx=>?_) fun hx=>fin _ (fun h=>absurd h.2 hx) fun _=>rfl) fun hk=>fin _ (fun h=>absurd h.1 hk) fun _=>rfl
     cases d with
     | table ls wd =>
      obtain⟨JN,MB,Ug,ZI⟩:=id Ud
      have Df:(bj (.table ls wd)).length=ls.length*wd:=Ax dO.2.2
      rw[Df] at Oa
      have ZJ:0<wd:=by
       rcases Nat.eq_zero_or_pos wd with h | h
       ·rw[h,Nat.mul_zero] at Oa
        exact absurd Oa (Nat.not_lt_zero _)
       ·exact h
      have ZK:0<ls.length:=by
       rcases Nat.eq_zero_or_pos ls.length with h | h
       ·rw[h,Nat.zero_mul] at Oa
        exact absurd Oa (Nat.not_lt_zero _)
       ·exact h
      have ZL:=Ug.length
      obtain⟨r0,Ry,t0,Cu,EL⟩:=Ug.get (List.getElem?_eq_getElem (by omega:0<JN.length))
      have Rx:qr JN 0=some (.ref t0):=by
       rw[←Cu]
       exact bT (j:=0) (List.getElem?_eq_getElem (by omega))
      have lr:r0.length=wd:=(dO.2.2 r0 (List.mem_of_getElem? Ry)).1
      refine⟨_,bA.of MB,_,Rx,t0,rfl,_,bA.of EL,by rw[lr];omega,fin _ (fun _=>?_) (fun h=>absurd ⟨hk,hx⟩ h)⟩
      rw[hx,lr]
      unfold sP
      rw[if_neg (by decide +kernel)]
      show _=if Str.ofString "under" = Str.ofString "under" then decide ((i+1+j-i) % wd=0) else _
      rw[if_pos rfl,show ((i:Int)+1+(j:Int)-(0+(i:Int)))=((i+1+j-i:Nat):Int) by omega,←Int.natCast_emod]
      exact decide_eq_decide.mpr (by omega)
     | row xs=>exact absurd hk (show ¬ (0:Int)=2 by decide)
     | bJ ns=>exact absurd hk (show ¬ (1:Int)=2 by decide)
    intro b4 WO Rz
    subst yJ
    refine ak fun B2 yJ=>?_
    suffices fin:∀ b',((eE d=2∧w=Str.ofString "beside")→b'=sP d w i (i+1+j))→(¬ (eE d=2∧w=Str.ofString "beside")→b'=b4)→B2 D0 [some (.int (eE d)),some (.ref l),some (.str w),some (.ref p),some (.ref f),some (.int (0+(i:Int))),some (.int ((i:Int)+1+(j:Int))),some (.bl b')] H' by
     and_intros
     refine fz (fun hk=>fz (fun hx=>?_) fun hx=>fin _ (fun h=>absurd h.2 hx) fun _=>rfl) fun hk=>fin _ (fun h=>absurd h.1 hk) fun _=>rfl
     cases d with
     | table ls wd =>
      obtain⟨JN,MB,Ug,ZI⟩:=id Ud
      have Df:(bj (.table ls wd)).length=ls.length*wd:=Ax dO.2.2
      rw[Df] at Oa
      have ZJ:0<wd:=by
       rcases Nat.eq_zero_or_pos wd with h | h
       ·rw[h,Nat.mul_zero] at Oa
        exact absurd Oa (Nat.not_lt_zero _)
       ·exact h
      have ZK:0<ls.length:=by
       rcases Nat.eq_zero_or_pos ls.length with h | h
       ·rw[h,Nat.zero_mul] at Oa
        exact absurd Oa (Nat.not_lt_zero _)
       ·exact h
      have ZL:=Ug.length
      obtain⟨r0,Ry,t0,Cu,EL⟩:=Ug.get (List.getElem?_eq_getElem (by omega:0<JN.length))
      have Rx:qr JN 0=some (.ref t0):=by
       rw[←Cu]
       exact bT (j:=0) (List.getElem?_eq_getElem (by omega))
      have lr:r0.length=wd:=(dO.2.2 r0 (List.mem_of_getElem? Ry)).1
      refine fz (fun he=>⟨_,bA.of MB,_,Rx,t0,rfl,_,bA.of EL,by rw[lr];omega,fin _ (fun _=>?_) (fun h=>absurd ⟨hk,hx⟩ h)⟩) fun he=>fin _ (fun _=>?_) (fun h=>absurd ⟨hk,hx⟩ h)
      ·rw[hx,lr]
       unfold sP
       rw[if_neg (by decide +kernel)]
       show _=if Str.ofString "beside" = Str.ofString "under" then _ else decide (i+1+j=i+1)&&decide (0<(i+1+j) % wd)
       rw[if_neg (by decide +kernel),decide_eq_true (show i+1+j=i+1 by omega),Bool.true_and,show ((i:Int)+1+(j:Int))=((i+1+j:Nat):Int) by omega,←Int.natCast_emod]
       exact decide_eq_decide.mpr (by omega)
      ·rw[hx]
       unfold sP
       rw[if_neg (by decide +kernel)]
       show _=if Str.ofString "beside" = Str.ofString "under" then _ else decide (i+1+j=i+1)&&_
       rw[if_neg (by decide +kernel),decide_eq_false (show ¬ i+1+j=i+1 by omega),Bool.false_and]
     | row xs=>exact absurd hk (show ¬ (0:Int)=2 by decide)
     | bJ ns=>exact absurd hk (show ¬ (1:Int)=2 by decide)
    intro b5 ZM P5
    have eb:b5=sP d w i (i+1+j):=by
     subst e0
     cases d with
     | row xs =>
      rcases hw with rfl | rfl | rfl
      ·rw[P5 (fun h=>absurd h.1 (show ¬ (0:Int)=2 by decide))]
       rw[Rz (fun h=>absurd h.1 (show ¬ (0:Int)=2 by decide))]
       rw[Si (fun h=>absurd h.1 (show ¬ (0:Int)=1 by decide))]
       rw[Ue (fun h=>absurd h.1 (show ¬ (0:Int)=1 by decide))]
       rw[U4 (fun h=>absurd h.2 (by decide +kernel))]
       rw[decide_eq_true rfl]
       unfold sP
       rw[if_pos rfl]
      ·rw[P5 (fun h=>absurd h.1 (show ¬ (0:Int)=2 by decide))]
       rw[Rz (fun h=>absurd h.1 (show ¬ (0:Int)=2 by decide))]
       rw[Si (fun h=>absurd h.1 (show ¬ (0:Int)=1 by decide))]
       rw[Ue (fun h=>absurd h.1 (show ¬ (0:Int)=1 by decide))]
       rw[U4 (fun h=>absurd h.2 (by decide +kernel))]
       rw[decide_eq_false (by decide +kernel)]
       unfold sP
       rw[if_neg (by decide +kernel)]
       show false=(decide (Str.ofString "under" = Str.ofString "beside")&&_)
       rw[decide_eq_false (by decide +kernel),Bool.false_and]
      ·rw[P5 (fun h=>absurd h.1 (show ¬ (0:Int)=2 by decide))]
       rw[Rz (fun h=>absurd h.1 (show ¬ (0:Int)=2 by decide))]
       rw[Si (fun h=>absurd h.1 (show ¬ (0:Int)=1 by decide))]
       rw[Ue (fun h=>absurd h.1 (show ¬ (0:Int)=1 by decide))]
       exact WM ⟨rfl,rfl⟩
     | bJ ns =>
      rcases hw with rfl | rfl | rfl
      ·rw[P5 (fun h=>absurd h.1 (show ¬ (1:Int)=2 by decide))]
       rw[Rz (fun h=>absurd h.1 (show ¬ (1:Int)=2 by decide))]
       rw[Si (fun h=>absurd h.2 (by decide +kernel))]
       rw[Ue (fun h=>absurd h.2 (by decide +kernel))]
       rw[U4 (fun h=>absurd h.1 (show ¬ (1:Int)=0 by decide))]
       rw[decide_eq_true rfl]
       unfold sP
       rw[if_pos rfl]
      ·rw[P5 (fun h=>absurd h.1 (show ¬ (1:Int)=2 by decide))]
       rw[Rz (fun h=>absurd h.1 (show ¬ (1:Int)=2 by decide))]
       rw[Si (fun h=>absurd h.2 (by decide +kernel))]
       exact ZH ⟨rfl,rfl⟩
      ·rw[P5 (fun h=>absurd h.1 (show ¬ (1:Int)=2 by decide))]
       rw[Rz (fun h=>absurd h.1 (show ¬ (1:Int)=2 by decide))]
       exact WN ⟨rfl,rfl⟩
     | table ls wd =>
      rcases hw with rfl | rfl | rfl
      ·rw[P5 (fun h=>absurd h.2 (by decide +kernel))]
       rw[Rz (fun h=>absurd h.2 (by decide +kernel))]
       rw[Si (fun h=>absurd h.1 (show ¬ (2:Int)=1 by decide))]
       rw[Ue (fun h=>absurd h.1 (show ¬ (2:Int)=1 by decide))]
       rw[U4 (fun h=>absurd h.1 (show ¬ (2:Int)=0 by decide))]
       rw[decide_eq_true rfl]
       unfold sP
       rw[if_pos rfl]
      ·rw[P5 (fun h=>absurd h.2 (by decide +kernel))]
       exact WO ⟨rfl,rfl⟩
      ·exact ZM ⟨rfl,rfl⟩
    rw[eb]
    subst yJ
    and_intros
    have lo:=Dx d w (Ga (bj d).length i++(List.range j).map fun j=>(i,i+1+j))
    have ZN:=NU (bj d).length i
    have lp2:i*(bj d).length≤144*144:=Nat.mul_le_mul (by omega) hN
    rw[List.length_append,List.length_map,List.length_range] at lo
    have ly:=PY.length
    have gx:∀ {t:Nat},t<(bj d).length→(bj d)[t]? = some ((bj d).getD t .cU):=fun h=>by
     rw[List.getD_eq_getElem?_getD,List.getElem?_eq_getElem h]
     rfl
    have Yc:∀ H5 JN b,aq H1 H5→H5 f=some (.lst JN)→aN .tup H5 JN (t9 d w (Ga (bj d).length i++(List.range j).map fun j=>(i,i+1+j))++(if sP d w i (i+1+j)=true then [[(bj d).getD i .cU,(bj d).getD (i+1+j) .cU]] else []))→D0.nx [some (.int (eE d)),some (.ref l),some (.str w),some (.ref p),some (.ref f),some (.int (0+(i:Int))),some (.int ((i:Int)+1+(j:Int))),some (.bl b)] H5:=fun H5 JN b s5 h5 r5=>by
     rw[RS]
     refine⟨s5,⟨JN,h5,?_⟩,_,_,bx.rfl⟩
     rw[List.range_succ,List.map_append,←List.append_assoc]
     show aN .tup H5 JN (t9 d w (_++[(i,i+1+j)]))
     rw[Il]
     exact r5
    refine fz (fun hb=>?_) fun hb=>Yc _ ys _ s4 LB (by rw[if_neg hb,List.append_nil];exact PY)
    refine⟨.inl ⟨rfl,_,bA.of LB⟩,_,bA.of (s4 _ _ h1),_,(by rw[Int.zero_add];exact bT (gx hi)),_,bA.of (s4 _ _ h1),_,(by rw[show ((i:Int)+1+(j:Int))=((i+1+j:Nat):Int) by omega];exact bT (gx Oa)),by decide,fun q hq=>?_⟩
    have sq:=aq.put (o:=.tup [(bj d).getD i .cU,(bj d).getD (i+1+j) .cU]) hq
    have fq:(upd H' q (.tup [(bj d).getD i .cU,(bj d).getD (i+1+j) .cU])) q=some (.tup [(bj d).getD i .cU,(bj d).getD (i+1+j) .cU]):=ag
    generalize (upd H' q (.tup [(bj d).getD i .cU,(bj d).getD (i+1+j) .cU]))=H5 at sq fq ⊢
    refine⟨ys,sq _ _ LB,Nat.lt_of_le_of_lt (by omega:ys.length≤30000) (by decide),Yc _ _ _ (kf (s4.trans sq) hf) ag ?_⟩
    rw[if_pos hb]
    exact ((PY.same sq).append (ys:=[.ref q]) (ms:=[[(bj d).getD i .cU,(bj d).getD (i+1+j) .cU]]) ⟨⟨q,rfl,fq⟩,trivial⟩).keep (qe (sq _ _ LB))
   ·rintro σ H' ⟨s4,IJ,p6,p7,rfl⟩
    and_intros
    rw[←Ij] at IJ
    exact⟨s4,IJ,_,_,_,bx.rfl⟩
  rintro σ H' ⟨s3,⟨ys,LB,PY⟩,p5,p6,p7,rfl⟩
  dsimp only
  subst hB
  and_intros
  exact k f ys H' (s1.trans s3) LB PY
theorem Gy {f:Addr}{fd:FuncData} (D:Def K mg "_law_left" jv ["_law_kind","_law_data_here","_law_places"] f fd) (T:Txt K mg ad) {c6:Addr}{fv:FuncData} (fM:av P w K mg base bw 1 c6 fv ["_law_data_here","_law_i"] kn) (bL:Def K mg "_law_next_deep" g9 ["_law_data_here","_law_i"] c6 fv):av P w K mg base bw 2 f fd ["_law_kind","_law_data_here","_law_places"] vB:=by
 refine D.F.ok jz (fun vs H Q E h=>?_) (fun gJ A outer s H vs Q E hr h=>?_)
 ·obtain⟨l,pl,d,ps,rfl,_⟩:=h
  rfl
 ·obtain⟨l,pl,d,ps,rfl,hd,dO,Cs,Ex,k⟩:=h
  refine⟨_,(@ah _ _ _ _ _ (cE (aL dS (pv 0) aj (aQ _))
   (@ai _ _ _ (aK (fP (own:=["_law_place"]) (cap:=["_law_data_here"]) (ix:=[1]) rfl (show br ["_law_kind","_law_data_here","_law_places","_law_columns","_law_found","_law_place","_law_deep","_law_above"] (ar jv) _ ["_law_place"] ["_law_data_here"] [1] from ⟨rfl,by decide +kernel,by decide +kernel,by decide +kernel,by decide +kernel,by decide +kernel,by decide +kernel,rfl,by decide +kernel⟩) (dU (pv 2)) (fun C s₀ H₀ ex pn=>⟨aZ (i:=0) (show (["_law_place","_law_data_here"]:List Str).Nodup by decide +kernel) rfl (Or.inl rfl),fh,(bo (show GX _ (rIxL K) from cx) (pv 1) (pv 0) (fun _ _=>rfl))⟩))))
   aV)
   (@ah _ _ _ _ _ (cE (aL dS (pv 0) aj (aQ _))
   (@ah _ _ _ _ _ (aP (i:=3) jz.nd rfl (Or.inr rfl) (fP (own:=["_law_place"]) (cap:=["_law_data_here"]) (ix:=[1]) rfl (show br ["_law_kind","_law_data_here","_law_places","_law_columns","_law_found","_law_place","_law_deep","_law_above"] (ar jv) _ ["_law_place"] ["_law_data_here"] [1] from ⟨rfl,by decide +kernel,by decide +kernel,by decide +kernel,by decide +kernel,by decide +kernel,by decide +kernel,rfl,by decide +kernel⟩) (dU (pv 2)) (fun C s₀ H₀ ex pn=>⟨aZ (i:=0) (show (["_law_place","_law_data_here"]:List Str).Nodup by decide +kernel) rfl (Or.inl rfl),(wR (aL M3 (pv 0) (aS (show gH _ (.builtin "len") (rLenL K) from bE) rfl T.len PySem.boot_len (ae (pv 1) af)) (aQ _))),(aI C1 (pv 0) (aS (show gH _ (.builtin "len") (rLenL K) from bE) rfl T.len PySem.boot_len (ae (pv 1) af)))⟩)))
   (@ai _ _ _ (aK (NN (x0 := "_law_place") (cap:=["_law_columns","_law_data_here"]) (ix:=[3,1]) rfl (show kD ["_law_kind","_law_data_here","_law_places","_law_columns","_law_found","_law_place","_law_deep","_law_above"] (ar jv) _ "_law_place" ["_law_columns","_law_data_here"] [3,1] from ⟨rfl,fun _ _=>rfl,fun _=>rfl,by decide +kernel,by decide +kernel,by decide +kernel,by decide +kernel,by decide +kernel,rfl,by decide +kernel⟩) (dU (pv 2)) (fun C c0 s₀ H₀ ex pn=>⟨aZ (i:=0) (show (["_law_place","_law_columns","_law_data_here"]:List Str).Nodup by decide +kernel) rfl (Or.inr rfl),(wR (aL wK (pv 0) (aS (show gH _ (.builtin "len") (rLenL K) from bE) rfl T.len PySem.boot_len (ae (pv 2) af)) (aQ _))),(HV (own:=["_law_column"]) (cap:=["_law_data_here","_law_place"]) (ix:=[2,0]) rfl ⟨rfl,by decide +kernel,by decide +kernel,by decide +kernel,by decide +kernel,by decide +kernel,by decide +kernel,rfl,by decide +kernel⟩ (show PI _ _ _ (iList K _) from dU (pv 1)) (fun C s₀ H₀ ex pn=>⟨aZ (i:=0) (show (["_law_column","_law_data_here","_law_place"]:List Str).Nodup by decide +kernel) rfl (Or.inl rfl),fh,(bo (show GX _ (Xp K) from M9) (bo (show GX _ (rIxL K) from cx) (pv 1) (pv 2) (fun _ _=>rfl)) (pv 0) (fun _ _=>rfl))⟩))⟩)))))
   aV)
   (@ah _ _ _ _ _ (aP (i:=4) jz.nd rfl (Or.inl rfl) (gK af))
   (@ah _ _ _ _ _ (fZ PassesOwn.never rfl (dU (pv 2)) (aZ (i:=5) jz.nd rfl (Or.inl rfl))
   (@ah _ _ _ _ _ (aP (i:=6) jz.nd rfl (Or.inl rfl) aj)
   (@ah _ _ _ _ _ (fZ PassesOwn.never rfl (dU (pv 2)) (aZ (i:=7) jz.nd rfl (Or.inl rfl))
   (@ai _ _ _ (cE (PW.pt (pw_and (aL wK (pv 7) (pv 5) (aQ _)) (pw_and1 (aL wK (pv 5) (aT fM (hr.mono (by decide)) rfl bL.mg bL.F.kp bL.b .nil aA (ae (pv 1) (ae (pv 7) af))) (aQ _)))))
   (@ai _ _ _ (aP (i:=6) jz.nd rfl (Or.inl rfl) (aI dF (pv 6) aj)))
   aV)))
   (@ai _ _ _ (dk (qI PySem.F.plainAttrs_list PySem.F.slot_list_append PySem.F.type_list_append gk (pv 4) (ae (i9 (ae (bo M9 (bo cx (pv 1) (pv 5) (fun _ _=>rfl)) aj (fun _ _=>rfl)) (ae (pv 6) af))) af)))))))
   (@ai _ _ _ (aK (pv 4))))))),?_⟩
  refine ak fun B hB=>?_
  and_intros
  cases d with
  | row xs =>
   have h2:H l=some (.lst xs):=hd
   have JO:placesOk 0 (xs.length:Nat) ps:=Ex
   have Rk:=places_len JO (by omega)
   have x40:=dO.2
   rw[show eE (.row xs)=0 from rfl,if_pos rfl]
   refine fi (K:=K) (a:=pl) (xs:=ps.map V.int) (H1:=H) (fun R r=>⟨_,rfl,pl,rfl,⟨_,bA.of Cs⟩,r⟩) (fun i ys H'=>H'=H∧ys.all markV=true∧ys.length=i) ⟨rfl,rfl,rfl⟩ (fun i ys H' _ ⟨e,_⟩=>e▸bA.of Cs) ?_ ?_
   ·rintro i y ys H' R hy ⟨rfl,hm,hlen⟩ hR
    have hi:=(List.getElem?_eq_some_iff.mp hy).1
    rw[List.length_map] at hi
    obtain⟨p0,Ob,rfl⟩:=List.mem_map.mp (List.mem_of_getElem? hy)
    have b:=(aR.mp JO).1 p0 Ob
    obtain⟨v,hv,_,e⟩:=FO (xs:=xs) (i:=p0) b.1 b.2
    have mv:=List.all_eq_true.mp dO.1 v hv
    simp only[wQ]
    and_intros
    refine⟨_,bA.of h2,_,e,ay (by omega),hR _ _ ⟨rfl,?_,by rw[List.length_append,hlen];rfl⟩⟩
    rw[List.all_append,hm,List.all_cons,mv]
    rfl
   ·rintro ys H' ⟨rfl,hm,hlen⟩
    rw[List.length_map] at hlen
    exact⟨Nat.le_of_lt (ay (by omega)),fun l' yH=>k l' (.row ys) _ (aq.put yH) ag rfl ⟨hm,by omega⟩⟩
  | bJ ns =>
   obtain⟨ts,h2,h3⟩:=id hd
   have hlen:=h3.length
   have JO:placesOk 0 (ns.length:Nat) ps:=Ex
   have Rk:=places_len JO (by omega)
   have ZO:=dO.2
   obtain⟨pb,pw⟩:=aR.mp JO
   have Oc:∀ {i:Nat}{y:V},(ps.map V.int)[i]? = some y→∃ p,y=.int p∧ps[i]? = some p:=fun {i y} h=>by
    rw[List.getElem?_map] at h
    cases e:ps[i]? with
    | none=>rw[e] at h;cases h
    | some p=>rw[e] at h;exact⟨p,(Option.some.inj h).symm,rfl⟩
   rw[show eE (.bJ ns)=1 from rfl,if_neg (by decide)]
   subst hB
   refine ak fun B hB=>?_
   and_intros
   rw[if_neg (by decide)]
   subst hB
   refine ak fun B hB=>?_
   and_intros
   refine⟨by decide,fun f hf=>?_⟩
   have s0:=aq.put (o:=.lst []) hf
   have f0:(upd H f (.lst [])) f=some (.lst []):=ag
   generalize (upd H f (.lst []))=H0 at s0 f0 ⊢
   subst hB
   refine ak fun B hB=>?_
   refine (show tN _ _ _ _ _ _ from ?_)
   refine (show iList _ _ _ _ _ from ?_)
   refine⟨_,rfl,pl,rfl,⟨_,bA.of (s0 _ _ Cs)⟩,jQ (xs:=ps.map V.int) (fun i σ H'=>aq H H'∧∃ xs,H' f=some (.lst xs)∧aO H' xs ((eU ns ps).take i)∧∃ o5 o6 o7:Option V,bx σ [some (.int 1),some (.ref l),some (.ref pl),none,some (.ref f),o5,o6,o7]) ⟨s0,[],f0,trivial,none,none,none,bx.rfl⟩ (fun i σ H' _ ⟨e,_⟩=>bA.of (e _ _ Cs)) ?_ ?_⟩
   ·rintro i y σ H' hy ⟨s1,xs,Uh,OD,o5,o6,o7,rfl⟩
    obtain⟨p,rfl,P6⟩:=Oc hy
    have bp:=pb p (List.mem_of_getElem? P6)
    have hi:=(List.getElem?_eq_some_iff.mp P6).1
    refine ak fun B2 yJ=>?_
    and_intros
    subst yJ
    refine ak fun B2 yJ=>?_
    refine (show tN _ _ _ _ _ _ from ?_)
    refine (show iList _ _ _ _ _ from ?_)
    refine⟨_,rfl,pl,rfl,⟨_,bA.of (s1 _ _ Cs)⟩,jQ (xs:=ps.map V.int) (fun j σ H2=>H2=H'∧∃ o7:Option V,bx σ [some (.int 1),some (.ref l),some (.ref pl),none,some (.ref f),some (.int p),some (.int (((ps.take j).filter fun q=>decide (q<p)&&decide (p<q+(bH ns q.toNat:Int)+1)).length:Nat)),o7]) ⟨rfl,_,bx.rfl⟩ (fun j σ H2 _ ⟨e,_⟩=>e▸bA.of (s1 _ _ Cs)) ?_ ?_⟩
    ·rintro j y σ H2 U6 ⟨rfl,o7,rfl⟩
     obtain⟨q,rfl,Yd⟩:=Oc U6
     have bq:=pb q (List.mem_of_getElem? Yd)
     and_intros
     rw[List.take_add_one,Yd]
     have ZP:(decide (q<p)&&decide (p<q+(bH ns q.toNat:Int)+1))=true→(List.filter (fun q=>decide (q<p)&&decide (p<q+(bH ns q.toNat:Int)+1)) (List.take j ps++(some q).toList)).length=(List.filter (fun q=>decide (q<p)&&decide (p<q+(bH ns q.toNat:Int)+1)) (List.take j ps)).length+1:=fun h=>by
      rw[List.filter_append,List.length_append]
      show _+(List.filter _ [q]).length=_
      rw[List.filter_cons_of_pos (p:=(fun q=>decide (q<p)&&decide (p<q+(bH ns q.toNat:Int)+1))) h]
      rfl
     have Ye:(decide (q<p)&&decide (p<q+(bH ns q.toNat:Int)+1))=false→(List.filter (fun q=>decide (q<p)&&decide (p<q+(bH ns q.toNat:Int)+1)) (List.take j ps++(some q).toList)).length=(List.filter (fun q=>decide (q<p)&&decide (p<q+(bH ns q.toNat:Int)+1)) (List.take j ps)).length:=fun h=>by
      rw[List.filter_append,List.length_append]
      show _+(List.filter _ [q]).length=_
      rw[List.filter_cons_of_neg (p:=(fun q=>decide (q<p)&&decide (p<q+(bH ns q.toNat:Int)+1))) (by show ¬ (decide (q<p)&&decide (p<q+(bH ns q.toNat:Int)+1))=true;rw[h];decide)]
      rfl
     refine fz (fun hq=>⟨l,ns,q.toNat,by rw[Int.toNat_of_nonneg bq.1],hd.same s1,by omega,ZO,_,rfl,fz (fun hx=>⟨rfl,?_⟩) fun hx=>⟨rfl,?_⟩⟩) fun hq=>?_
     ·rw[ZP (by rw[decide_eq_true hq,decide_eq_true (show p<q+(bH ns q.toNat:Int)+1 by omega)];rfl),Int.natCast_succ]
      exact⟨_,bx.rfl⟩
     ·rw[Ye (by rw[decide_eq_false (show ¬ p<q+(bH ns q.toNat:Int)+1 by omega),Bool.and_false])]
      exact⟨_,bx.rfl⟩
     ·rw[Ye (by rw[decide_eq_false hq,Bool.false_and])]
      exact⟨_,bx.rfl⟩
    rintro σ H2 ⟨rfl,o7,rfl⟩
    rw[List.length_map,List.take_length,Mx dO.1 JO bp.1 bp.2]
    dsimp only
    subst yJ
    and_intros
    obtain⟨n0,N3,t0,Cu,EL⟩:=(h3.same s1).get (List.getElem?_eq_getElem (by omega:p.toNat<ts.length))
    have e0:qr ts p=some (.ref t0):=by
     have:=bT (xs:=ts) (j:=p.toNat) (List.getElem?_eq_getElem (by omega:p.toNat<ts.length))
     rw[Int.toNat_of_nonneg bp.1,Cu] at this
     exact this
    refine⟨.inl ⟨rfl,_,bA.of Uh⟩,_,bA.of (s1 _ _ h2),_,e0,.inr (.inl ⟨t0,_,0,_,rfl,rfl,df.of EL,rfl,by decide,fun q hq=>?_⟩)⟩
    have sp:=aq.put (o:=.tup [.str n0.1,.int ((kept ps (Es ns p.toNat)).length:Nat)]) hq
    have fp:(upd H2 q (.tup [.str n0.1,.int ((kept ps (Es ns p.toNat)).length:Nat)])) q=some (.tup [.str n0.1,.int ((kept ps (Es ns p.toNat)).length:Nat)]):=ag
    generalize (upd H2 q (.tup [.str n0.1,.int ((kept ps (Es ns p.toNat)).length:Nat)]))=H5 at sp fp ⊢
    have lx:=OD.length
    rw[List.length_take] at lx
    have el:(eU ns ps).take (i+1)=(eU ns ps).take i++[(n0.1,((kept ps (Es ns p.toNat)).length:Int))]:=by
     have e1:(eU ns ps)[i]? = some (me ns ps p):=by
      unfold eU
      rw[List.getElem?_map,P6]
      rfl
     rw[List.take_add_one,e1]
     show _++[me ns ps p]=_
     unfold me
     rw[List.getD_eq_getElem?_getD,N3]
     rfl
    have nT:aO (upd H5 f (.lst (xs++[.ref q]))) (xs++[.ref q]) ((eU ns ps).take (i+1)):=by
     rw[el]
     have qq:=(OD.same sp).append (ys:=[.ref q]) (ms:=[(n0.1,((kept ps (Es ns p.toNat)).length:Int))]) ⟨⟨q,rfl,fp⟩,trivial⟩
     exact qq.iz (qe (sp _ _ Uh))
    exact⟨xs,sp _ _ Uh,ay (by omega),kf (s1.trans sp) hf,_,ag,nT,_,_,_,bx.rfl⟩
   rintro σ H' ⟨s1,xs,Uh,OD,o5,o6,o7,rfl⟩
   dsimp only
   subst hB
   and_intros
   rw[List.length_map,show ps.length=(eU ns ps).length from (List.length_map _).symm,List.take_length] at OD
   exact k f (.bJ (eU ns ps)) H' s1 ⟨xs,Uh,OD⟩ rfl ⟨CQ dO.1 JO,by show (eU ns ps).length≤40;unfold eU;rw[List.length_map];omega⟩
  | table ls w =>
   obtain⟨ys,h2,h3,h4⟩:=id hd
   have ly:=h3.length
   have yK:placesOk 0 ((ls.length:Int)+(w:Int)) ps:=by
    have:((kM (.table ls w):Nat):Int)=(ls.length:Int)+(w:Int):=by show ((ls.length+w:Nat):Int)=_;omega
    rw[←this]
    exact Ex
   have Oc:∀ {i:Nat}{y:V},(ps.map V.int)[i]? = some y→∃ p,y=.int p∧ps[i]? = some p:=fun {i y} h=>by
    rw[List.getElem?_map] at h
    cases e:ps[i]? with
    | none=>rw[e] at h;cases h
    | some p=>rw[e] at h;exact⟨p,(Option.some.inj h).symm,rfl⟩
   have Rk:=places_len yK (by omega)
   obtain⟨XH,X4,ZQ⟩:=id dO
   rw[show eE (.table ls w)=2 from rfl,if_neg (by decide)]
   subst hB
   refine ak fun B hB=>?_
   and_intros
   refine fi (K:=K) (a:=pl) (xs:=ps.map V.int) (H1:=H) (fun R r=>⟨_,rfl,pl,rfl,⟨_,bA.of Cs⟩,r⟩) (fun i mU H'=>H'=H∧mU=(bB ls.length (ps.take i)).map V.int) ⟨rfl,rfl⟩ (fun i ys H' _ ⟨e,_⟩=>e▸bA.of Cs) ?_ ?_
   ·rintro i y mU H' R hy ⟨rfl,rfl⟩ hR
    obtain⟨p,rfl,P6⟩:=Oc hy
    have et:bB ls.length (ps.take (i+1))=bB ls.length (ps.take i)++(if (ls.length:Int)≤p then [p-ls.length] else []):=by
     rw[List.take_add_one,P6]
     exact y9
    have lf:=List.length_filter_le (fun i=>decide ((ls.length:Int)≤i)) (ps.take i)
    rw[List.length_take] at lf
    and_intros
    refine⟨_,bA.of h2,fz (fun hx=>⟨_,bA.of h2,ay (by rw[List.length_map];unfold bB;rw[List.length_map];omega),hR _ _ ⟨rfl,?_⟩⟩) fun hx=>hR _ _ ⟨rfl,?_⟩⟩
    ·rw[et,if_pos (by omega),List.map_append,ly]
     rfl
    ·rw[et,if_neg (by omega),List.append_nil]
   rintro mU H' ⟨rfl,rfl⟩
   rw[List.length_map,List.length_map,List.take_length]
   have lc:=u9 (n:=ls.length) yK
   generalize ZR:bB ls.length ps=cs at lc ⊢
   have cb:=rp yK
   rw[ZR] at cb
   refine⟨Nat.le_of_lt (ay (by omega)),fun D hD=>?_⟩
   have sD:=aq.put (o:=.lst (cs.map V.int)) hD
   have fD:(upd H' D (.lst (cs.map V.int))) D=some (.lst (cs.map V.int)):=ag
   generalize (upd H' D (.lst (cs.map V.int)))=H1 at sD fD ⊢
   have ll:=sV (n:=ls.length) yK
   refine fi (K:=K) (a:=pl) (xs:=ps.map V.int) (H1:=H1) (fun R r=>⟨_,rfl,pl,rfl,⟨_,bA.of (sD _ _ Cs)⟩,r⟩) (fun i mU H2=>aq H1 H2∧∃ N6,aN .lst H2 mU N6∧N6.length=(linesOf ls.length (ps.take i)).length∧∀ x∈N6,qw cs.length x) ⟨aq.refl _,[],trivial,rfl,fun _ z=>nomatch z⟩ (fun i ys H2 _ ⟨e,_⟩=>bA.of (e _ _ (sD _ _ Cs))) ?_ ?_
   ·rintro i y mU H2 R hy ⟨s2,N6,hr,hl,OS⟩ hR
    obtain⟨p,rfl,P6⟩:=Oc hy
    have bp:=(aR.mp yK).1 p (List.mem_of_getElem? P6)
    have el:linesOf ls.length (ps.take (i+1))=linesOf ls.length (ps.take i)++(if p<(ls.length:Int) then [p] else []):=by
     rw[List.take_add_one,P6]
     exact wX
    have hs:=sD.trans s2
    have lr:=hr.length
    have lt:(linesOf ls.length (ps.take i)).length≤ps.length:=Nat.le_trans (List.length_filter_le _ _) (by rw[List.length_take];omega)
    and_intros
    refine⟨_,bA.of (hs _ _ h2),fz (fun hx=>?_) fun hx=>hR _ _ ⟨s2,N6,hr,by rw[el,if_neg (by omega),List.append_nil];exact hl,OS⟩⟩
    obtain⟨r0,Ry,t0,Cu,EL⟩:=(h3.same hs).get (List.getElem?_eq_getElem (by omega:p.toNat<ys.length))
    have e0:qr ys p=some (.ref t0):=by
     have:=bT (xs:=ys) (j:=p.toNat) (List.getElem?_eq_getElem (by omega:p.toNat<ys.length))
     rw[Int.toNat_of_nonneg bp.1,Cu] at this
     exact this
    have Ui:qw w r0:=ZQ r0 (List.mem_of_getElem? Ry)
    refine fi (K:=K) (a:=D) (xs:=cs.map V.int) (H1:=H2) (fun R r=>⟨_,rfl,D,rfl,⟨_,bA.of (s2 _ _ fD)⟩,r⟩) (fun j zs H3=>H3=H2∧zs.all markV=true∧zs.length=j) ⟨rfl,rfl,rfl⟩ (fun j zs H3 _ ⟨e,_⟩=>e▸bA.of (s2 _ _ fD)) ?_ ?_
    ·rintro j y zs H3 R2 U6 ⟨rfl,hm,T7⟩ ZS
     have hj:=(List.getElem?_eq_some_iff.mp U6).1
     rw[List.length_map] at hj
     obtain⟨c,hc,rfl⟩:=List.mem_map.mp (List.mem_of_getElem? U6)
     have bc:=cb c hc
     obtain⟨v,hv,_,e⟩:=FO (xs:=r0) (i:=c) bc.1 (by rw[Ui.1];exact bc.2)
     have mv:=List.all_eq_true.mp Ui.2 v hv
     simp only[wQ]
     and_intros
     refine⟨_,bA.of (hs _ _ h2),_,e0,.inl ⟨t0,_,c,_,rfl,rfl,bA.of EL,e,ay (by omega),ZS _ _ ⟨rfl,?_,by rw[List.length_append,T7];rfl⟩⟩⟩
     rw[List.all_append,hm,List.all_cons,mv]
     rfl
    ·rintro zs H3 ⟨rfl,hm,T7⟩
     rw[List.length_map] at T7
     refine⟨Nat.le_of_lt (ay (by omega)),fun q hq=>⟨ay (by omega),hR _ _ ⟨s2.upd hq,N6++[zs],(hr.same (aq.put hq)).append ⟨⟨q,rfl,ag⟩,trivial⟩,?_,fun x hx=>?_⟩⟩⟩
     ·rw[el,if_pos (by omega),List.length_append,List.length_append,hl]
      rfl
     ·rcases List.mem_append.mp hx with hx | hx
      ·exact OS x hx
      ·rw[List.mem_singleton.mp hx]
       exact⟨T7,hm⟩
   ·rintro mU H2 ⟨s2,N6,hr,hl,OS⟩
    rw[List.length_map,List.take_length] at hl
    have lr:=hr.length
    exact⟨Nat.le_of_lt (ay (by omega)),fun l' yH=>k l' (.table N6 (yL N6)) _ ((sD.trans s2).upd yH) ⟨mU,ag,hr.same (aq.put yH),rfl⟩ rfl (NW (by omega) OS (by omega))⟩
theorem Gz {f:Addr}{fd:FuncData} (D:Def K mg "_law_size" p8 ["_law_kind","_law_data_here"] f fd) (T:Txt K mg ad):av P w K mg base bw 1 f fd ["_law_kind","_law_data_here"] (vC):=by
 refine D.F.ok F6 (fun vs H Q E h=>?_) (fun gJ A outer s H vs Q E hr h=>?_)
 ·obtain⟨l,d,rfl,_⟩:=h
  rfl
 ·obtain⟨l,d,rfl,hd,dO,k⟩:=h
  have hu:=hr.units
  refine⟨_,(@ah _ _ _ _ _ (cE (PW.pt (pw_and (aL dS (pv 0) aj (aQ _)) (pw_and1 (aL (Jk hu) (pv 1) (gK af) (aQ _)))))
   (@ai _ _ _ (aK (aI dF (aS bE rfl T.len PySem.boot_len (ae (pv 1) af)) (aS bE rfl T.len PySem.boot_len (ae (bo cx (pv 1) aj (fun _ _=>rfl)) af)))))
   aV)
   (@ai _ _ _ (aK (aS bE rfl T.len PySem.boot_len (ae (pv 1) af))))),?_⟩
  refine ak fun B hB=>?_
  and_intros
  cases d with
  | row xs =>
   have h2:H l=some (.lst xs):=hd
   rw[show eE (.row xs)=0 from rfl,if_neg (by decide)]
   subst hB
   and_intros
   exact⟨_,bA.of h2,k H (aq.refl _)⟩
  | bJ ns =>
   obtain⟨ts,h2,h3⟩:=hd
   rw[show eE (.bJ ns)=1 from rfl,if_neg (by decide)]
   subst hB
   and_intros
   refine⟨_,bA.of h2,?_⟩
   rw[h3.length]
   exact k H (aq.refl _)
  | table ls w =>
   obtain⟨ys,h2,h3,h4⟩:=hd
   have ly:=h3.length
   rw[show eE (.table ls w)=2 from rfl,if_pos rfl]
   refine⟨by decide,fun e he=>?_⟩
   have se:=aq.put (o:=.lst []) he
   have fe:(upd H e (.lst [])) e=some (.lst []):=ag
   generalize (upd H e (.lst []))=H5 at se fe ⊢
   have mk:∀ x∈ls,x.all markV=true:=fun x hx=>(dO.2.2 x hx).2
   have cl:=Ak mk
   have dl:=B1 ls
   refine⟨_,_,.lst (bA.of (se _ _ h2)) ((h3.same se).Tc mk),.lst (bA.of fe) .nil,?_,rfl,?_⟩
   ·unfold SeqAt.shaped
    rw[Bool.and_eq_true]
    refine⟨by simp only[PyData.canLay0];exact cl,decide_eq_true ?_⟩
    simp only[PyData.depth]
    omega
   cases ls with
   | nil =>
    refine⟨false,rfl,?_⟩
    rw[if_neg (by decide)]
    subst hB
    and_intros
    refine⟨_,bA.of (se _ _ h2),?_⟩
    rw[ly]
    have:=k H5 se
    rw[h4] at this
    exact this
   | cons x r =>
    refine⟨true,rfl,?_⟩
    rw[if_pos rfl]
    obtain⟨r0,Ry,t0,Cu,EL⟩:=(h3.same se).get (List.getElem?_eq_getElem (show 0<ys.length by rw[ly];exact Nat.succ_pos _))
    have Rx:qr ys 0=some (.ref t0):=by
     rw[←Cu]
     exact bT (j:=0) (List.getElem?_eq_getElem (by rw[ly];exact Nat.succ_pos _))
    cases Ry
    refine⟨_,bA.of (se _ _ h2),_,bA.of (se _ _ h2),_,Rx,t0,rfl,_,bA.of EL,?_⟩
    have:=k H5 se
    rw[h4] at this
    rw[ly]
    exact this
theorem AJ {f:Addr}{fd:FuncData} (D:Def K mg "_law_true_leaf" jc ["_law_kind","_law_left_here","_law_cell"] f fd) (T:Txt K mg ad) {dZ:Addr}{ff:FuncData} (gQ:av P w K mg base bw 1 dZ ff ["_law_kind","_law_data_here"] mB) {jL:Addr}{pR:FuncData} (vG:av P w K mg base bw 2 jL pR ["_law_kind","_law_data_here","_law_word"] uc) (cJ:Def K mg "_law_spots" iB ["_law_kind","_law_data_here"] dZ ff) (lQ:Def K mg "_law_pairs" nU ["_law_kind","_law_data_here","_law_word"] jL pR):av P w K mg base bw 3 f fd ["_law_kind","_law_left_here","_law_cell"] oj:=by
 refine D.F.ok ki (fun vs H Q E h=>?_) (fun gJ A outer s H vs Q E hr h=>?_)
 ·obtain⟨l,d,c,rfl,_⟩:=h
  rfl
 ·obtain⟨l,d,c,rfl,hd,dO,sN,k⟩:=h
  have hu:=hr.units
  refine⟨_,(@ah _ _ _ _ _ (aP (i:=3) ki.nd rfl (Or.inl rfl) (aT gQ (hr.mono (by decide)) rfl cJ.mg cJ.F.kp cJ.b .nil aA (ae (pv 0) (ae (pv 1) af))))
   (@ah _ _ _ _ _ (aP (i:=4) ki.nd rfl (Or.inl rfl) (bo cx (pv 3) (aI cS (aI fO (pv 2) aj) (aS bE rfl T.len PySem.boot_len (ae (pv 3) af))) (fun _ _=>rfl)))
   (@ah _ _ _ _ _ (aP (i:=5) ki.nd rfl (Or.inl rfl) (aT vG (hr.mono (by decide)) rfl lQ.mg lQ.F.kp lQ.b .nil aA (ae (pv 0) (ae (pv 1) (ae (bo cx (gK (ae bI (ae bI af))) (aI cS (pv 2) aj) (fun _ _=>rfl)) af)))))
   (@ah _ _ _ _ _ (cE (PW.pt (pw_and (aL wK (aI cS (pv 2) aj) aj (aQ _)) (pw_and1 (aL (Jk hu) (pv 5) (gK af) (aQ _)))))
   (@ai _ _ _ (aK (aI CO (i9 (ae (bo cx (gK (ae bI (ae bI af))) (aI cS (pv 2) aj) (fun _ _=>rfl)) af)) (bo cx (pv 5) (aI cS (aI fO (pv 2) aj) (aS bE rfl T.len PySem.boot_len (ae (pv 5) af))) (fun _ _=>rfl)))))
   aV)
   (@ah _ _ _ _ _ (cE (aL dS (aI cS (pv 2) aj) aj (aQ _))
   (@ai _ _ _ (aK (i9 (ae bI (ae (aI dF aj (aI cS (aI fO (pv 2) aj) (qI PySem.F.plainAttrs_list PySem.F.slot_list_count PySem.F.type_list_count NM (pv 3) (ae (pv 4) af)))) (ae (pv 4) af))))))
   aV)
   (@ai _ _ _ (aK (i9 (ae bI (ae (pv 4) af)))))))))),?_⟩
  have mk:=List.all_eq_true.mp (tf dO)
  have fl:=xq (tf dO)
  have hN:=Im dO
  have n0:0<(bj d).length:=List.length_pos_iff.mpr sN
  refine ak fun B hB=>?_
  and_intros
  refine⟨l,d,rfl,hd,dO,fun p H1 s1 h1=>?_⟩
  subst hB
  refine ak fun B hB=>?_
  and_intros
  obtain⟨v,hv,_,e⟩:=yy (xs:=bj d) (i:=c / 4) (m:=((bj d).length:Int)) (by omega) (Int.le_refl _)
  refine⟨_,bA.of h1,by omega,_,bA.of h1,v,e,?_⟩
  obtain⟨z,rfl,hz⟩:∃ z,v=.str z∧d6 z=true:=by
   have:=mk v hv
   cases v with
   | str z=>exact⟨z,rfl,this⟩
   | _=>exact nomatch (show false=true from this)
  clear e
  have cnt:0<(bj d).countP (kC z):=List.countP_pos_iff.mpr ⟨_,hv,by show Lb (.str z) (.str z)=true;exact beq_self_eq_true z⟩
  subst hB
  refine ak fun B hB=>?_
  and_intros
  refine⟨by decide,fun q hq=>?_⟩
  have s2:=aq.put (o:=.lst [.str "before",.str "under"]) hq
  have g2:(upd H1 q (.lst [.str "before",.str "under"])) q=some (.lst [.str "before",.str "under"]):=ag
  generalize (upd H1 q (.lst [.str "before",.str "under"]))=H2 at s2 g2 ⊢
  have c0:=Int.emod_nonneg c (show (2:Int)≠0 by decide)
  have c2:=Int.emod_lt_of_pos c (show (0:Int)<2 by decide)
  obtain⟨w,ew,hw⟩:∃ w,qr ([.str "before",.str "under"]:List V) (c % 2)=some (.str w)∧Lu w:=by
   rcases (show c % 2=0∨c % 2=1 by omega) with h | h
   ·rw[h];exact⟨_,rfl,.inl rfl⟩
   ·rw[h];exact⟨_,rfl,.inr (.inl rfl)⟩
  refine⟨_,bA.of g2,_,ew,l,d,w,rfl,hd.same (s1.trans s2),dO,hw,fun pp ys H3 s3 h3 r3=>?_⟩
  have LA:=(s1.trans s2).trans s3
  have Yf:=s3 _ _ (s2 _ _ h1)
  have lo:=Dx d w (JE (bj d).length)
  have ly:=r3.length
  have pm:=DC dO w
  subst hB
  refine ak fun B hB=>?_
  have rest:∀ H5,aq H H5→H5 p=some (.lst (bj d))→B ({ nx:=fun _ H'=>Q .cU H',rt:=Q }:Ends) [some (.int (eE d)),some (.ref l),some (.int c),some (.ref p),some (.str z),some (.ref pp)] H5:=fun H5 s5 h5=>by
   subst hB
   and_intros
   refine fz (fun _=>⟨.inl ⟨rfl,_,bA.of h5⟩,_,bA.of h5,rfl,fl,?_,by decide,fun t ht=>?_⟩) fun _=>⟨by decide,fun t ht=>?_⟩
   ·have:0<(bj d).countP (fun ZT=>Lb ZT (.str z)):=cnt
    omega
   ·exact k (.ref t) (.many _ z) _ (s5.upd ht) (by unfold gA;exact⟨t,rfl,ag⟩) (by unfold ma;exact hz) (by unfold wB;rfl)
   ·exact k (.ref t) (.has z) _ (s5.upd ht) (by unfold gA;exact⟨t,rfl,ag⟩) (by unfold ma;exact hz) (by unfold wB;rfl)
  and_intros
  refine fz (fun _=>?_) fun _=>rest H3 LA Yf
  refine⟨by decide,fun e he=>?_⟩
  have se:=aq.put (o:=.lst []) he
  have fe:(upd H3 e (.lst [])) e=some (.lst []):=ag
  generalize (upd H3 e (.lst []))=H4 at se fe ⊢
  have r4:=r3.same se
  have ct:=B0 pm
  have dt:=Dj (Dw d w)
  have Uj:=N0 dO w
  have Yg:=LA.trans se
  refine⟨_,_,.lst (bA.of (se _ _ h3)) (r4.Td pm),.lst (bA.of fe) .nil,?_,rfl,?_⟩
  ·unfold SeqAt.shaped
   rw[Bool.and_eq_true]
   refine⟨by simp only[PyData.canLay0];exact ct,decide_eq_true ?_⟩
   simp only[PyData.depth]
   omega
  generalize Dw d w=rs at r4 Uj ly ⊢
  cases rs with
  | nil=>exact⟨false,rfl,by rw[if_neg (by decide)];exact rest H4 Yg (se _ _ Yf)⟩
  | cons r0 rr =>
   refine⟨true,rfl,?_⟩
   rw[if_pos rfl]
   refine⟨by decide,fun q1 Ro=>?_⟩
   have t1:=aq.put (o:=.lst [.str "before",.str "under"]) Ro
   have g1:(upd H4 q1 (.lst [.str "before",.str "under"])) q1=some (.lst [.str "before",.str "under"]):=ag
   generalize (upd H4 q1 (.lst [.str "before",.str "under"]))=J1 at t1 g1 ⊢
   refine⟨_,bA.of g1,_,ew,by decide,fun q2 Uk=>?_⟩
   have t2:=aq.put (o:=.tup [.str w]) Uk
   have Yh:(upd J1 q2 (.tup [.str w])) q2=some (.tup [.str w]):=ag
   generalize (upd J1 q2 (.tup [.str w]))=J2 at t2 Yh ⊢
   have Pd:=t1.trans t2
   have Yi:=Pd _ _ (se _ _ h3)
   have ly1:0<ys.length:=by rw[ly];exact Nat.succ_pos _
   obtain⟨v3,ZU,_,e3⟩:=yy (xs:=ys) (i:=c / 4) (m:=(ys.length:Int)) (by omega) (Int.le_refl _)
   obtain⟨row,IE,t3,rfl,WK⟩:=(r4.same Pd).mem ZU
   obtain⟨x',y',rfl,mx,my⟩:=Uj row IE
   refine⟨_,bA.of Yi,by omega,_,bA.of Yi,_,e3,t3,rfl,_,df.of Yh,_,df.of WK,by simp,(show 3≤sizeLine by decide),fun e=>(nomatch e),fun _ q3 Sj=>?_⟩
   exact k (.ref q3) (.pair w x' y') _ ((Yg.trans Pd).upd Sj) (by unfold gA;exact⟨q3,rfl,ag⟩) (by unfold ma;exact⟨hw,mx,my⟩) (by unfold wB;rfl)
theorem GA {f:Addr}{fd:FuncData} (D:Def K mg "_law_leaf" p9 ["_law_cell","_law_names_here"] f fd) (T:Txt K mg ad):av P w K mg base bw 1 f fd ["_law_cell","_law_names_here"] vx:=by
 refine D.F.ok qP (fun vs H Q E h=>?_) (fun gJ A outer s H vs Q E hr h=>?_)
 ·obtain⟨c,nl,zs,rfl,_⟩:=h
  rfl
 ·obtain⟨c,nl,zs,rfl,N8,z1,U3,hz,k⟩:=h
  refine⟨_,(@ah _ _ _ _ _ (aP (i:=2) qP.nd rfl (Or.inl rfl) (bo cx (pv 1) (aI cS (aI fO (pv 0) aj) (aS bE rfl T.len PySem.boot_len (ae (pv 1) af))) (fun _ _=>rfl)))
   (@ah _ _ _ _ _ (aP (i:=3) qP.nd rfl (Or.inl rfl) (bo cx (pv 1) (aI cS (aI fO (pv 0) (aI tO aj (aS bE rfl T.len PySem.boot_len (ae (pv 1) af)))) (aS bE rfl T.len PySem.boot_len (ae (pv 1) af))) (fun _ _=>rfl)))
   (@ah _ _ _ _ _ (aP (i:=4) qP.nd rfl (Or.inl rfl) (bo cx (gK (ae bI (ae bI (ae bI (ae bI (ae bI (ae bI (ae bI (ae bI af))))))))) (aI cS (pv 0) aj) (fun _ _=>rfl)))
   (@ah _ _ _ _ _ (cE (aL dS (pv 4) bI (aQ _))
   (@ai _ _ _ (aK (i9 (ae bI (ae (pv 2) af)))))
   aV)
   (@ah _ _ _ _ _ (cE (aL dS (pv 4) bI (aQ _))
   (@ai _ _ _ (aK (i9 (ae bI (ae (aI dF aj (aI cS (aI fO (pv 0) (aI tO aj (aS bE rfl T.len PySem.boot_len (ae (pv 1) af)))) aj)) (ae (pv 2) af))))))
   aV)
   (@ai _ _ _ (aK (i9 (ae (pv 4) (ae (pv 2) (ae (pv 3) af))))))))))),?_⟩
  have pick:∀ i:Int,∃ z,d6 z=true∧qr (zs.map V.str) (i % (zs.length:Int))=some (.str z):=fun i=>by
   obtain⟨v,hv,_,e⟩:=yy (xs:=zs.map V.str) (i:=i) (m:=(zs.length:Int)) (by omega) (by rw[List.length_map];exact Int.le_refl _)
   obtain⟨z,Rb,rfl⟩:=List.mem_map.mp hv
   exact⟨z,hz z Rb,e⟩
  have lz:(((zs.map V.str).length:Nat):Int)=(zs.length:Int):=by rw[List.length_map]
  refine ak fun B hB=>?_
  and_intros
  obtain⟨WZ,W0,e1⟩:=pick (c / 8)
  refine⟨_,bA.of N8,by rw[lz];omega,_,bA.of N8,_,by rw[lz];exact e1,?_⟩
  subst hB
  refine ak fun B hB=>?_
  and_intros
  obtain⟨ZV,RT,e2⟩:=pick (c / (8*(zs.length:Int)))
  refine⟨_,bA.of N8,.inl ⟨by decide,by decide⟩,by rw[lz];omega,by rw[lz];omega,_,bA.of N8,by rw[lz];omega,_,bA.of N8,_,by rw[lz];exact e2,?_⟩
  subst hB
  refine ak fun B hB=>?_
  and_intros
  refine⟨by decide,fun p hp=>?_⟩
  obtain⟨v,hv,_,e⟩:=yy (xs:=([.str "has",.str "many",.str "before",.str "under",.str "beside",.str "has",.str "before",.str "under"]:List V)) (i:=c) (m:=8) (by decide) (by decide)
  refine⟨_,bA.of ag,v,e,?_⟩
  have OM:v=.str "has" ∨ v=.str "many" ∨ ∃ w,v=.str w∧Lu w:=by
   simp only[List.mem_cons,List.not_mem_nil,or_false] at hv
   rcases hv with rfl | rfl | rfl | rfl | rfl | rfl | rfl | rfl
   ·exact .inl rfl
   ·exact .inr (.inl rfl)
   ·exact .inr (.inr ⟨_,rfl,.inl rfl⟩)
   ·exact .inr (.inr ⟨_,rfl,.inr (.inl rfl)⟩)
   ·exact .inr (.inr ⟨_,rfl,.inr (.inr rfl)⟩)
   ·exact .inl rfl
   ·exact .inr (.inr ⟨_,rfl,.inl rfl⟩)
   ·exact .inr (.inr ⟨_,rfl,.inr (.inl rfl)⟩)
  clear hv e
  have s1:=aq.put (o:=.lst [.str "has",.str "many",.str "before",.str "under",.str "beside",.str "has",.str "before",.str "under"]) hp
  generalize (upd H p (.lst [.str "has",.str "many",.str "before",.str "under",.str "beside",.str "has",.str "before",.str "under"]))=H1 at s1 ⊢
  have W2:=s1 _ _ N8
  subst hB
  rcases OM with rfl | rfl | ⟨w,rfl,hw⟩
  ·and_intros
   refine⟨by decide,fun q hq=>k (.ref q) (.has WZ) _ (s1.upd hq) (by unfold gA;exact⟨q,rfl,ag⟩) (by unfold ma;exact W0) (by unfold wB;rfl)⟩
  ·and_intros
   rw[if_neg (by decide +kernel)]
   exact⟨_,bA.of W2,.inl ⟨by decide,by decide⟩,by rw[lz];omega,by rw[lz];omega,by decide,fun p hp=>k (.ref p) (.many _ WZ) _ (s1.upd hp) (by unfold gA;exact⟨p,rfl,ag⟩) (by unfold ma;exact W0) (by unfold wB;rfl)⟩
  ·have n1:¬ w = "has" := by rcases hw with rfl | rfl | rfl<;>decide +kernel
   have n2:¬ w = "many" := by rcases hw with rfl | rfl | rfl<;>decide +kernel
   and_intros
   rw[if_neg n1,if_neg n2]
   exact⟨by decide,fun q hq=>k (.ref q) (.pair w WZ ZV) _ (s1.upd hq) (by unfold gA;exact⟨q,rfl,ag⟩) (by unfold ma;exact⟨hw,W0,RT⟩) (by unfold wB;rfl)⟩
theorem GB {f:Addr}{fd:FuncData} (D:Def K mg "_law_term" qa ["_law_script","_law_begin","_law_many","_law_names_here"] f fd) (T:Txt K mg ad) {kS:Addr}{qR:FuncData} (tu:av P w K mg base bw 1 kS qR ["_law_cell","_law_names_here"] vx) {bS:Addr}{cu:FuncData} (a9:av P w K mg base bw 1 bS cu ["_law_script","_law_k"] (iq K)) (iK:Def K mg "_law_leaf" p9 ["_law_cell","_law_names_here"] kS qR) (aw:Def K mg "_law_cell_at" gc ["_law_script","_law_k"] bS cu):av P w K mg base bw 2 f fd ["_law_script","_law_begin","_law_many","_law_names_here"] (vy K):=by
 refine D.F.ok gM (fun vs H Q E h=>?_) (fun gJ A outer s H vs Q E hr h=>?_)
 ·obtain⟨a,nl,ns,b,m,zs,rfl,_⟩:=h
  rfl
 ·obtain⟨a,nl,ns,b,m,zs,rfl,hS,m1,m7,N8,z1,U3,hz,k⟩:=h
  refine⟨_,(@ah _ _ _ _ _ (aP (i:=4) gM.nd rfl (Or.inl rfl) (gK (ae (aT tu (hr.mono (by decide)) rfl iK.mg iK.F.kp iK.b .nil aA (ae (aT a9 (hr.mono (by decide)) rfl aw.mg aw.F.kp aw.b .nil aA (ae (pv 0) (ae (pv 1) af))) (ae (pv 3) af))) af)))
   (@ah _ _ _ _ _ (fZ PassesOwn.never rfl (E5 rfl T.range (ae aj (ae (pv 2) af))) (aZ (i:=5) gM.nd rfl (Or.inl rfl))
   (@ah _ _ _ _ _ (aP (i:=6) gM.nd rfl (Or.inl rfl) (aT a9 (hr.mono (by decide)) rfl aw.mg aw.F.kp aw.b .nil aA (ae (pv 0) (ae (aI dF (pv 1) (pv 5)) af))))
   (@ah _ _ _ _ _ (aP (i:=7) gM.nd rfl (Or.inl rfl) (aI cS (pv 6) aj))
   (@ai _ _ _ (cE (aL dS (pv 7) aj (aQ _))
   (@ai _ _ _ (dk (qI PySem.F.plainAttrs_list PySem.F.slot_list_append PySem.F.type_list_append gk (pv 4) (ae (i9 (ae bI (ae (QB PySem.F.plainAttrs_list PySem.F.slot_list_pop PySem.F.type_list_pop QE (pv 4)) af))) af))))
   (@ai _ _ _ (cE (PW.pt (pw_and (aL wL (pv 7) aj (aQ _)) (pw_and1 (aL wL (aS bE rfl T.len PySem.boot_len (ae (pv 4) af)) aj (aQ _)))))
   (@ah _ _ _ _ _ (aP (i:=8) gM.nd rfl (Or.inl rfl) (aI dF aj (aI cS (aI fO (pv 6) aj) (aI C1 (aS (yv rfl) rfl T.min (by decide +kernel) (ae aj (ae (aS bE rfl T.len PySem.boot_len (ae (pv 4) af)) af))) aj))))
   (@ai _ _ _ (aP (i:=4) gM.nd rfl (Or.inl rfl) (aI Ji (ky sR (pv 4) pI (mH (Ad uX (pv 8)))) (gK (ae (aI CO (i9 (ae (bo cx (gK (ae bI (ae bI af))) (aI C1 (pv 7) aj) (fun _ _=>rfl)) af)) (fw oS rfl T.tuple PyProof.Rows.boot_tuple (ae (ky sR (pv 4) (mH (Ad uX (pv 8))) pI) af))) af))))))
   (@ai _ _ _ (dk (qI PySem.F.plainAttrs_list PySem.F.slot_list_append PySem.F.type_list_append gk (pv 4) (ae (aT tu (hr.mono (by decide)) rfl iK.mg iK.F.kp iK.b .nil aA (ae (aI fO (pv 6) aj) (ae (pv 3) af))) af)))))))))))
   (@ah _ _ _ _ _ (CZ PassesOwn.never (aL wL (aS bE rfl T.len PySem.boot_len (ae (pv 4) af)) aj (aQ _))
   (@ah _ _ _ _ _ (aP (i:=8) gM.nd rfl (Or.inl rfl) (aS (yv rfl) rfl T.min (by decide +kernel) (ae aj (ae (aS bE rfl T.len PySem.boot_len (ae (pv 4) af)) af))))
   (@ai _ _ _ (aP (i:=4) gM.nd rfl (Or.inl rfl) (aI Ji (ky sR (pv 4) pI (mH (Ad uX (pv 8)))) (gK (ae (aI CO (i9 (ae (bo cx (gK (ae bI (ae bI af))) (aI cS (aI fO (aT a9 (hr.mono (by decide)) rfl aw.mg aw.F.kp aw.b .nil aA (ae (pv 0) (ae (pv 1) af))) aj) aj) (fun _ _=>rfl)) af)) (fw oS rfl T.tuple PyProof.Rows.boot_tuple (ae (ky sR (pv 4) (mH (Ad uX (pv 8))) pI) af))) af)))))))
   (@ai _ _ _ (aK (bo cx (pv 4) aj (fun _ _=>rfl))))))),?_⟩
  refine ak fun B hB=>?_
  and_intros
  refine⟨a,ns,b,rfl,hS,fun c0=>⟨c0,nl,zs,rfl,N8,z1,U3,hz,fun v tm H1 s1 ht ok dp=>⟨by decide,fun p hp=>?_⟩⟩⟩
  have s2:=aq.put (o:=.lst [v]) hp
  have f2:(upd H1 p (.lst [v])) p=some (.lst [v]):=ag
  generalize (upd H1 p (.lst [v]))=H2 at s2 f2 ⊢
  have Ob:H p=none:=aq.free s1 hp
  have Bh:=s1.trans s2
  have IL:=ht.same s2
  subst hB
  refine ak fun B hB=>?_
  refine (show tN _ _ _ _ _ _ from ?_)
  refine (show iRng2 _ _ _ _ from ?_)
  refine mw (fun J H3=>H3=H2∧J=Fz 1 (m-1)) (fun G hG=>?_) ?_
  ·and_intros
   have:=hG _ _ ⟨rfl,rfl⟩
   refine⟨by decide,by decide,by omega,by omega,?_⟩
   rw[show ((m:Int)-1).toNat=m-1 by omega]
   exact this
  rintro _ H3 ⟨WY,rfl⟩
  subst WY
  refine i8 (n:=m-1) (fun i σ H'=>aq H H'∧∃ (p:Addr) (vs:List V) (oO:List Tm),H p=none∧H' p=some (.lst vs)∧aY H' vs oO∧Cc oO∧yB oO≤i∧1≤vs.length∧vs.length≤i+1∧∃ o5 o6 o7 o8:Option V,bx σ [some (.ref a),some (.int b),some (.int m),some (.ref nl),some (.ref p),o5,o6,o7,o8]) ⟨Bh,p,[v],[tm],Ob,f2,by unfold aY;exact⟨IL,by unfold aY;trivial⟩,xt (fun q hq=>by rw[List.mem_singleton.mp hq];exact ok),xu (fun q hq=>by rw[List.mem_singleton.mp hq];omega),Nat.le_refl _,Nat.le_refl _,none,none,none,none,bx.rfl⟩ ?_ ?_
  ·rintro i σ H' hi ⟨s3,p,vs,oO,Ob,hp,CU,ok,dp,l1,li,o5,o6,o7,o8,rfl⟩
   refine ak fun B2 yJ=>?_
   and_intros
   refine⟨a,ns,b+(1+i),by rw[show ((b:Int)+(1+(i:Int)))=((b+(1+i):Nat):Int) by omega],hS.same s3,fun c=>?_⟩
   subst yJ
   refine ak fun B2 yJ=>?_
   and_intros
   have e0:=Int.emod_nonneg c (show (6:Int)≠0 by decide)
   have e6:=Int.emod_lt_of_pos c (show (0:Int)<6 by decide)
   generalize c % 6=wy at e0 e6 ⊢
   subst yJ
   refine Fm (fun b H1=>H1=H'∧b=decide (wy=5)) (fun G hG=>?_) (fun H1 ⟨eH,e5⟩=>?_) (fun H1 ⟨eH,e5⟩=>?_)
   ·and_intros
    exact hG _ _ ⟨rfl,rfl⟩
   ·rw[eH]
    and_intros
    obtain⟨v,ev⟩:∃ v,vs[vs.length-1]? = some v:=⟨_,List.getElem?_eq_getElem (by omega)⟩
    obtain⟨pm,G2,hv⟩:=CU.get ev
    have sQ:=List.mem_of_getElem? G2
    have W3:=i3 sQ
    refine⟨.inl ⟨rfl,_,bA.of hp⟩,.inl ⟨rfl,_,bA.of hp⟩,vs,hp,v,ev,by decide,fun q hq=>?_⟩
    have Ul:=qe (o:=.lst vs.dropLast) hp
    have sK:aq H (upd H' p (.lst vs.dropLast)):=kf s3 Ob
    have kp:(upd H' p (.lst vs.dropLast)) p=some (.lst vs.dropLast):=ag
    generalize (upd H' p (.lst vs.dropLast))=K1 at Ul sK kp hq ⊢
    have t2:=aq.put (o:=.tup [.str "not",v]) hq
    have g2:(upd K1 q (.tup [.str "not",v])) q=some (.tup [.str "not",v]):=ag
    generalize (upd K1 q (.tup [.str "not",v]))=K2 at t2 g2 ⊢
    have tA:∀ b ys,H' b=some (.tup ys)→K2 b=some (.tup ys):=fun b ys e=>t2 _ _ (Ul b ys e)
    obtain⟨tm1,h1,o1,d1⟩:=JF CU ok dp (vs.length-1)
    rw[←List.dropLast_eq_take] at h1
    obtain⟨oa,Bj,MF,MM⟩:=zp (k:=i+1) (v:=.ref q) (tm:=.not pm) (h1.iz tA) o1 (by omega) (by unfold gA;exact⟨q,v,rfl,g2,hv.iz tA⟩) (by unfold ma;exact i4 ok sQ) (by unfold wB;omega)
    have lv:(vs.dropLast++[V.ref q]).length=vs.length:=by
     rw[List.length_append,List.length_dropLast]
     simp only[List.length_cons,List.length_nil]
     omega
    exact⟨_,t2 _ _ kp,ay (by rw[List.length_dropLast];omega),kf (sK.trans t2) Ob,p,Ob,_,ag,oa,Bj.iz (qe (t2 _ _ kp)),MF,MM,by omega,by omega,_,_,_,_,bx.rfl⟩
   ·rw[eH]
    refine Fm (fun b H1=>H1=H'∧(b=true→2<wy∧1<vs.length)) (fun G hG=>?_) (fun H1 ⟨eH,e2⟩=>?_) (fun H1 ⟨eH,e2⟩=>?_)
    ·and_intros
     exact fz (fun h=>⟨_,bA.of hp,hG _ _ ⟨rfl,fun h2=>⟨h,by have:=of_decide_eq_true h2;omega⟩⟩⟩) fun h=>hG _ _ ⟨rfl,fun h2=>nomatch h2⟩
    ·rw[eH]
     obtain⟨w2,v1⟩:=e2 rfl
     have w5:¬ wy=5:=of_decide_eq_false e5.symm
     refine ak fun B2 yJ=>?_
     and_intros
     refine⟨_,bA.of hp,by split<;>omega,?_⟩
     obtain⟨sz,T8,z2,z6,zl⟩:∃ sz:Nat,2+c / 6 % ((if (vs.length:Int)<6 then (vs.length:Int) else 6)-1)=(sz:Int)∧2≤sz∧sz≤6∧sz≤vs.length:=by
      have q0:=Int.emod_nonneg (c / 6) (show (if (vs.length:Int)<6 then (vs.length:Int) else 6)-1≠0 by split<;>omega)
      have q1:=Int.emod_lt_of_pos (c / 6) (show 0<(if (vs.length:Int)<6 then (vs.length:Int) else 6)-1 by split<;>omega)
      generalize c / 6 % ((if (vs.length:Int)<6 then (vs.length:Int) else 6)-1)=u at q0 q1 ⊢
      refine⟨(2+u).toNat,by omega,by omega,?_,?_⟩
      ·split at q1<;>omega
      ·split at q1<;>omega
     rw[T8]
     subst yJ
     obtain⟨bb,W4⟩:∃ bb,qr ([.str "all",.str "any"]:List V) (wy-3)=some (.str (wJ bb)):=by
      rcases (show wy=3∨wy=4 by omega) with h | h
      ·rw[h];exact⟨true,rfl⟩
      ·rw[h];exact⟨false,rfl⟩
     refine Fv (K:=K) hp (by omega) zl (by omega) (fun J R sJ r=>?_) (fun bb q6 q8 J8 Um n8 g6 g8=>?_)
     ·and_intros
      exact⟨by decide,fun q2 h2=>⟨_,bA.of ag,.str (wJ bb),W4,r bb _ (aq.put h2)⟩⟩
     obtain⟨oa,Bj,MF,MM⟩:=Dv (b:=bb) (q:=q6) (n:=sz) (CU.same Um) (by omega) (by omega) ok dp g6
     have l8:(vs.take (vs.length-sz)++[V.ref q6]).length=vs.length-sz+1:=by
      rw[List.length_append,List.length_take]
      simp only[List.length_cons,List.length_nil]
      omega
     exact⟨s3.trans Um,q8,aq.free s3 n8,_,g8,oa,Bj,MF,MM,by omega,by omega,_,_,_,_,bx.rfl⟩
    ·rw[eH]
     and_intros
     refine⟨.inl ⟨rfl,_,bA.of hp⟩,c / 6,nl,zs,rfl,s3 _ _ N8,z1,U3,hz,fun v tm H2 s2 IL P7 Sk=>?_⟩
     obtain⟨oa,Bj,MF,MM⟩:=zp (k:=i+1) (CU.same s2) ok (by omega) IL P7 (by omega)
     have lv:(vs++[v]).length=vs.length+1:=by
      rw[List.length_append]
      rfl
     exact⟨_,s2 _ _ hp,ay (by omega),kf (s3.trans s2) Ob,p,Ob,_,ag,oa,Bj.iz (qe (s2 _ _ hp)),MF,MM,by omega,by omega,_,_,_,_,bx.rfl⟩
  rintro σ H' ⟨s3,p,vs,oO,Ob,hp,CU,ok,dp,l1,li,o5,o6,o7,o8,rfl⟩
  dsimp only
  subst hB
  refine ak fun B hB=>?_
  and_intros
  refine⟨fun mm σ H'=>aq H H'∧∃ (p:Addr) (vs:List V) (oO:List Tm),H' p=some (.lst vs)∧aY H' vs oO∧Cc oO∧1≤vs.length∧vs.length=mm∧vs.length≤7∧(6<vs.length→yB oO≤6)∧(1<vs.length→yB oO≤7)∧yB oO≤8∧∃ o8:Option V,bx σ [some (.ref a),some (.int b),some (.int m),some (.ref nl),some (.ref p),o5,o6,o7,o8],⟨_,s3,p,vs,oO,hp,CU,ok,l1,rfl,by omega,fun _=>by omega,fun _=>by omega,by omega,o8,bx.rfl⟩,?_⟩
  clear Ob hp CU ok dp l1 li s3
  rintro mm σ H' ⟨s3,p,vs,oO,hp,CU,ok,l1,lm,l7,dA,dB,dC,o8,rfl⟩
  refine JJ (fun b H1=>H1=H'∧b=decide ((1:Int)<vs.length)) (fun G hG=>by and_intros;exact⟨_,bA.of hp,hG _ _ ⟨rfl,rfl⟩⟩) ?_
  rintro bq H1 ⟨eH,ZW⟩
  rw[eH,ZW]
  refine fz (fun hx=>?_) fun hx=>?_
  ·refine⟨fun σ' H1=>aq H H1∧∃ (p1:Addr) (OE:List V) (JP:List Tm),H1 p1=some (.lst OE)∧aY H1 OE JP∧Cc JP∧1≤OE.length∧OE.length<mm∧OE.length≤7∧(6<OE.length→yB JP≤6)∧(1<OE.length→yB JP≤7)∧yB JP≤8∧∃ o8:Option V,bx σ' [some (.ref a),some (.int b),some (.int m),some (.ref nl),some (.ref p1),o5,o6,o7,o8],fun σ' H1 ⟨e1,p1,OE,JP,e2,e3,e4,e5,e6,e7,e8,e9,ZX,ZY,ZZ⟩=>⟨OE.length,e6,e1,p1,OE,JP,e2,e3,e4,e5,rfl,e7,e8,e9,ZX,ZY,ZZ⟩,?_⟩
   have hx:=of_decide_eq_true hx
   refine ak fun B2 yJ=>?_
   and_intros
   refine⟨_,bA.of hp,?_⟩
   obtain⟨sz,T8,z2,z6,zl,zz⟩:∃ sz:Nat,(if (vs.length:Int)<6 then (vs.length:Int) else 6)=(sz:Int)∧2≤sz∧sz≤6∧sz≤vs.length∧(sz=6∨sz=vs.length):=by
    by_cases h:(vs.length:Int)<6
    ·rw[if_pos h];exact⟨vs.length,rfl,by omega,by omega,Nat.le_refl _,.inr rfl⟩
    ·rw[if_neg h];exact⟨6,rfl,by omega,by omega,by omega,.inl rfl⟩
   rw[T8]
   have dp:yB oO≤yB oO:=Nat.le_refl _
   subst yJ
   have wd:∀ c2:Int,∃ bb,qr ([.str "any",.str "all"]:List V) (c2 / 7 % 2)=some (.str (wJ bb)):=fun c2=>by
    have q0:=Int.emod_nonneg (c2 / 7) (show (2:Int)≠0 by decide)
    have q1:=Int.emod_lt_of_pos (c2 / 7) (show (0:Int)<2 by decide)
    rcases (show c2 / 7 % 2=0∨c2 / 7 % 2=1 by omega) with h | h
    ·rw[h];exact⟨false,rfl⟩
    ·rw[h];exact⟨true,rfl⟩
   simp only[tAsg,gName]
   refine Fv (K:=K) hp (by omega) zl (by omega) (fun J R sJ r=>?_) (fun bb q6 q8 J8 Um n8 g6 g8=>?_)
   ·and_intros
    refine⟨by decide,fun q2 h2=>⟨a,ns,b,rfl,hS.same ((s3.trans sJ).trans (aq.put h2)),fun c2=>⟨c2,rfl,?_⟩⟩⟩
    obtain⟨bb,W4⟩:=wd c2
    exact⟨_,bA.of ag,_,W4,r bb _ (aq.put h2)⟩
   simp only[List.set_cons_zero,List.set_cons_succ]
   obtain⟨oa,Bj,MF,MM⟩:=Dv (b:=bb) (q:=q6) (n:=sz) (CU.same Um) (by omega) (by omega) ok dp g6
   have l8:(vs.take (vs.length-sz)++[V.ref q6]).length=vs.length-sz+1:=by
    rw[List.length_append,List.length_take]
    simp only[List.length_cons,List.length_nil]
    omega
   refine⟨s3.trans Um,q8,_,g8,oa,Bj,MF,by omega,by omega,by omega,fun h=>by omega,fun h=>?_,?_,_,bx.rfl⟩
   ·have:=dA (by omega)
    omega
   ·have:=dB (by omega)
    omega
  ·obtain⟨v,ev⟩:∃ v,vs[0]? = some v:=⟨_,List.getElem?_eq_getElem (by omega)⟩
   obtain⟨pm,G2,hv⟩:=CU.get ev
   have sQ:=List.mem_of_getElem? G2
   have W3:=i3 sQ
   subst hB
   and_intros
   exact⟨_,bA.of hp,_,(show qr _ ((0:Nat):Int)=_ from bT ev),k v pm H' s3 hv (i4 ok sQ) (by omega)⟩
theorem E1 {f:Addr}{fd:FuncData}{n:Nat} (D:Def K mg "_law_fault" iC ["_law_term_here"] f fd) (T:Txt K mg ad) {m9:Addr}{tD:FuncData} (zB:av P w K mg base bw 1 m9 tD ["self","mark"] (xw ad)) {kT:Addr}{qS:FuncData} (xF:av P w K mg base bw 1 kT qS ["self","number","mark"] (vt ad)) {eT:Addr}{qT:FuncData} (qf:av P w K mg base bw 1 eT qT ["self","one","other"] (vv ad)) {ng:Addr}{tE:FuncData} (zC:av P w K mg base bw 1 ng tE ["self","part"] (xx ad)) {fX:Addr}{gY:FuncData} (gR:av P w K mg base bw (n+3) fX gY ["_law_term_here"] (pO ad n)) {fY:Addr}{pS:FuncData} (qU:av P w K mg base bw 1 fY pS ["self","parts"] (ua K ad)) (b8:Def K mg "_law_fault" iC ["_law_term_here"] fX gY) (zD:Binds K tD ["self","mark"] []) (xG:Binds K qS ["self","number","mark"] []) (qg:Binds K qT ["self","one","other"] []) (zE:Binds K tE ["self","part"] []) (qV:Binds K pS ["self","parts"] []) (Od:Mk K ad.Fn m9) (JQ:Mk K ad.rG kT) (DT:Mk K ad.iP eT) (GC:Mk K ad.Under eT) (DU:Mk K ad.iQ eT) (Oe:Mk K ad.Not ng) (Og:Mk K ad.All fY) (Oh:Mk K ad.Any fY):av P w K mg base bw (n+1+3) f fd ["_law_term_here"] (pO ad (n+1)):=by
 refine D.F.ok yN (fun vs H Q E h=>?_) (fun gJ A outer s H vs Q E hr h=>?_)
 ·obtain⟨v,tm,rfl,_⟩:=h
  rfl
 ·obtain⟨v,tm,rfl,ht,ok,dp,k⟩:=h
  refine⟨_,(@ah _ _ _ _ _ (cE (aL dS (bo cT (pv 0) aj (fun _ _=>rfl)) bI (aQ _))
   (@ai _ _ _ (aK (ke Od zB (hr.mono (by omega)) rfl T.TC zD .nil aA (ae (bo cT (pv 0) aj (fun _ _=>rfl)) af))))
   aV)
   (@ah _ _ _ _ _ (cE (aL dS (bo cT (pv 0) aj (fun _ _=>rfl)) bI (aQ _))
   (@ai _ _ _ (aK (ke JQ xF (hr.mono (by omega)) rfl T.Rh xG .nil aA (ae (bo cT (pv 0) aj (fun _ _=>rfl)) (ae (bo cT (pv 0) aj (fun _ _=>rfl)) af)))))
   aV)
   (@ah _ _ _ _ _ (cE (aL dS (bo cT (pv 0) aj (fun _ _=>rfl)) bI (aQ _))
   (@ai _ _ _ (aK (ke DT qf (hr.mono (by omega)) rfl T.NO qg .nil aA (ae (bo cT (pv 0) aj (fun _ _=>rfl)) (ae (bo cT (pv 0) aj (fun _ _=>rfl)) af)))))
   aV)
   (@ah _ _ _ _ _ (cE (aL dS (bo cT (pv 0) aj (fun _ _=>rfl)) bI (aQ _))
   (@ai _ _ _ (aK (ke GC qf (hr.mono (by omega)) rfl T.O9 qg .nil aA (ae (bo cT (pv 0) aj (fun _ _=>rfl)) (ae (bo cT (pv 0) aj (fun _ _=>rfl)) af)))))
   aV)
   (@ah _ _ _ _ _ (cE (aL dS (bo cT (pv 0) aj (fun _ _=>rfl)) bI (aQ _))
   (@ai _ _ _ (aK (ke DU qf (hr.mono (by omega)) rfl T.NP qg .nil aA (ae (bo cT (pv 0) aj (fun _ _=>rfl)) (ae (bo cT (pv 0) aj (fun _ _=>rfl)) af)))))
   aV)
   (@ah _ _ _ _ _ (cE (aL dS (bo cT (pv 0) aj (fun _ _=>rfl)) bI (aQ _))
   (@ai _ _ _ (aK (ke Oe zC (hr.mono (by omega)) rfl T.TJ zE .nil aA (ae (aT gR (hr.mono (by omega)) rfl b8.mg b8.F.kp b8.b .nil aA (ae (bo cT (pv 0) aj (fun _ _=>rfl)) af)) af))))
   aV)
   (@ah _ _ _ _ _ (cE (aL dS (bo cT (pv 0) aj (fun _ _=>rfl)) bI (aQ _))
   (@ai _ _ _ (aK (ke Og qU (hr.mono (by omega)) rfl T.TF qV .nil aA (ae (fP (own:=["_law_part"]) (cap:=[]) (ix:=[]) rfl (show br ["_law_term_here"] (ar iC) _ ["_law_part"] [] [] from ⟨rfl,by decide +kernel,by decide +kernel,by decide +kernel,by decide +kernel,by decide +kernel,by decide +kernel,rfl,by decide +kernel⟩) (wH (ky FZ (pv 0) (mH aj) pI)) (fun C s₀ H₀ ex pn=>⟨aZ (i:=0) (show (["_law_part"]:List Str).Nodup by decide +kernel) rfl (Or.inl rfl),fh,(aT gR (hr.mono (by omega)) rfl b8.mg b8.F.kp b8.b .nil aA (ae (pv 0) af))⟩)) af))))
   aV)
   (@ai _ _ _ (aK (ke Oh qU (hr.mono (by omega)) rfl T.TH qV .nil aA (ae (fP (own:=["_law_part"]) (cap:=[]) (ix:=[]) rfl (show br ["_law_term_here"] (ar iC) _ ["_law_part"] [] [] from ⟨rfl,by decide +kernel,by decide +kernel,by decide +kernel,by decide +kernel,by decide +kernel,by decide +kernel,rfl,by decide +kernel⟩) (wH (ky FZ (pv 0) (mH aj) pI)) (fun C s₀ H₀ ex pn=>⟨aZ (i:=0) (show (["_law_part"]:List Str).Nodup by decide +kernel) rfl (Or.inl rfl),fh,(aT gR (hr.mono (by omega)) rfl b8.mg b8.F.kp b8.b .nil aA (ae (pv 0) af))⟩)) af))))))))))),?_⟩
  and_intros
  cases tm with
  | has m =>
   unfold gA at ht
   obtain⟨a,rfl,ha⟩:=ht
   refine⟨a,rfl,_,df.of ha,_,rfl,rfl,?_⟩
   rw[if_pos rfl]
   refine⟨a,rfl,_,df.of ha,_,rfl,fun z dx hz vp sN=>⟨z,dx,m,rfl,ag,rfl,?_⟩⟩
   rw[qJ]
   exact k (.ref z) _ (t8 hz vp sN) (by unfold eB;exact⟨z,dx,rfl,ag⟩)
  | many i m =>
   unfold gA at ht
   obtain⟨a,rfl,ha⟩:=ht
   refine⟨a,rfl,_,df.of ha,_,rfl,rfl,?_⟩
   rw[if_neg (by decide +kernel)]
   refine⟨a,rfl,_,df.of ha,_,rfl,rfl,?_⟩
   rw[if_pos rfl]
   refine⟨a,rfl,_,df.of ha,_,rfl,a,rfl,_,df.of ha,_,rfl,fun z dx hz vp sN=>⟨z,dx,i,m,rfl,ag,rfl,?_⟩⟩
   rw[qJ]
   exact k (.ref z) _ (t8 hz vp sN) (by unfold eB;exact⟨z,dx,rfl,ag⟩)
  | pair w x y =>
   unfold gA at ht
   obtain⟨a,rfl,ha⟩:=ht
   unfold ma at ok
   rcases ok.1 with rfl | rfl | rfl
   ·refine⟨a,rfl,_,df.of ha,_,rfl,rfl,?_⟩
    rw[if_neg (by decide +kernel)]
    refine⟨a,rfl,_,df.of ha,_,rfl,rfl,?_⟩
    rw[if_neg (by decide +kernel)]
    refine⟨a,rfl,_,df.of ha,_,rfl,rfl,?_⟩
    rw[if_pos rfl]
    have Fe:tZ ad "before" = ad.iP:=if_pos rfl
    refine⟨a,rfl,_,df.of ha,_,rfl,a,rfl,_,df.of ha,_,rfl,fun z dx hz vp sN=>⟨z,dx,"before",x,y,rfl,by rw[Fe];exact ag,rfl,?_⟩⟩
    rw[Fe,qJ]
    exact k (.ref z) _ (t8 hz vp sN) (by unfold eB;rw[Fe];exact⟨z,dx,rfl,ag⟩)
   ·refine⟨a,rfl,_,df.of ha,_,rfl,rfl,?_⟩
    rw[if_neg (by decide +kernel)]
    refine⟨a,rfl,_,df.of ha,_,rfl,rfl,?_⟩
    rw[if_neg (by decide +kernel)]
    refine⟨a,rfl,_,df.of ha,_,rfl,rfl,?_⟩
    rw[if_neg (by decide +kernel)]
    refine⟨a,rfl,_,df.of ha,_,rfl,rfl,?_⟩
    rw[if_pos rfl]
    have Fe:tZ ad "under" = ad.Under:=by unfold tZ;rw[if_neg (by decide +kernel),if_pos rfl]
    refine⟨a,rfl,_,df.of ha,_,rfl,a,rfl,_,df.of ha,_,rfl,fun z dx hz vp sN=>⟨z,dx,"under",x,y,rfl,by rw[Fe];exact ag,rfl,?_⟩⟩
    rw[Fe,qJ]
    exact k (.ref z) _ (t8 hz vp sN) (by unfold eB;rw[Fe];exact⟨z,dx,rfl,ag⟩)
   ·refine⟨a,rfl,_,df.of ha,_,rfl,rfl,?_⟩
    rw[if_neg (by decide +kernel)]
    refine⟨a,rfl,_,df.of ha,_,rfl,rfl,?_⟩
    rw[if_neg (by decide +kernel)]
    refine⟨a,rfl,_,df.of ha,_,rfl,rfl,?_⟩
    rw[if_neg (by decide +kernel)]
    refine⟨a,rfl,_,df.of ha,_,rfl,rfl,?_⟩
    rw[if_neg (by decide +kernel)]
    refine⟨a,rfl,_,df.of ha,_,rfl,rfl,?_⟩
    rw[if_pos rfl]
    have Fe:tZ ad "beside" = ad.iQ:=by unfold tZ;rw[if_neg (by decide +kernel),if_neg (by decide +kernel)]
    refine⟨a,rfl,_,df.of ha,_,rfl,a,rfl,_,df.of ha,_,rfl,fun z dx hz vp sN=>⟨z,dx,"beside",x,y,rfl,by rw[Fe];exact ag,rfl,?_⟩⟩
    rw[Fe,qJ]
    exact k (.ref z) _ (t8 hz vp sN) (by unfold eB;rw[Fe];exact⟨z,dx,rfl,ag⟩)
  | not p =>
   unfold gA at ht
   obtain⟨a,x,rfl,ha,hx⟩:=ht
   unfold ma at ok
   unfold wB at dp
   refine⟨a,rfl,_,df.of ha,_,rfl,rfl,?_⟩
   rw[if_neg (by decide +kernel)]
   refine⟨a,rfl,_,df.of ha,_,rfl,rfl,?_⟩
   rw[if_neg (by decide +kernel)]
   refine⟨a,rfl,_,df.of ha,_,rfl,rfl,?_⟩
   rw[if_neg (by decide +kernel)]
   refine⟨a,rfl,_,df.of ha,_,rfl,rfl,?_⟩
   rw[if_neg (by decide +kernel)]
   refine⟨a,rfl,_,df.of ha,_,rfl,rfl,?_⟩
   rw[if_neg (by decide +kernel)]
   refine⟨a,rfl,_,df.of ha,_,rfl,rfl,?_⟩
   rw[if_pos rfl]
   refine⟨a,rfl,_,df.of ha,_,rfl,x,p,rfl,hx,ok,by omega,fun u H1 s1 f1=>fun z dx hz vp sN=>⟨z,dx,u,rfl,ag,rfl,?_⟩⟩
   rw[qJ]
   exact k (.ref z) _ (s1.trans (t8 hz vp sN)) (by unfold eB;exact⟨z,dx,u,rfl,ag,f1.same (t8 hz vp sN)⟩)
  | gq b ps =>
   unfold gA at ht
   obtain⟨a,xs,rfl,ha,MC⟩:=ht
   unfold ma at ok
   unfold wB at dp
   cases b with
   | true =>
    have ha:H a=some (.tup (.str "all" :: xs)):=ha
    refine⟨a,rfl,_,df.of ha,_,(show qr _ ((0:Nat):Int)=_ from bT rfl),rfl,?_⟩
    rw[if_neg (by decide +kernel)]
    refine⟨a,rfl,_,df.of ha,_,(show qr _ ((0:Nat):Int)=_ from bT rfl),rfl,?_⟩
    rw[if_neg (by decide +kernel)]
    refine⟨a,rfl,_,df.of ha,_,(show qr _ ((0:Nat):Int)=_ from bT rfl),rfl,?_⟩
    rw[if_neg (by decide +kernel)]
    refine⟨a,rfl,_,df.of ha,_,(show qr _ ((0:Nat):Int)=_ from bT rfl),rfl,?_⟩
    rw[if_neg (by decide +kernel)]
    refine⟨a,rfl,_,df.of ha,_,(show qr _ ((0:Nat):Int)=_ from bT rfl),rfl,?_⟩
    rw[if_neg (by decide +kernel)]
    refine⟨a,rfl,_,df.of ha,_,(show qr _ ((0:Nat):Int)=_ from bT rfl),rfl,?_⟩
    rw[if_neg (by decide +kernel)]
    refine⟨a,rfl,_,df.of ha,_,(show qr _ ((0:Nat):Int)=_ from bT rfl),rfl,?_⟩
    rw[if_pos rfl]
    refine Dp (K:=K) (fun p1 H1=>aq H H1∧H1 p1=some (.tup xs)) (fun R r=>?_) (fun p1 H1 ⟨s1,h1⟩=>?_)
    ·and_intros
     refine⟨_,df.of ha,fun h=>absurd h Ik,fun _ p hp=>?_⟩
     rw[TQ]
     exact⟨⟨_,df.of ag⟩,r _ _ ⟨aq.put hp,ag⟩⟩
    refine uJ (K:=K) (a:=p1) (xs:=xs) (H1:=H1) (fun R r=>r) (fun i ys H'=>aq H H'∧H' p1=some (.tup xs)∧fA ad H' ys (ps.take i)) ⟨s1,h1,by rw[List.take_zero];unfold fA;trivial⟩ (fun i ys H' _ ⟨_,h,_⟩=>df.of h) ?_ ?_
    ·rintro i x ys H' R hx ⟨s2,h2,hf⟩ hR
     simp only[wQ]
     and_intros
     obtain⟨pm,G2,z4⟩:=MC.get hx
     have sQ:=List.mem_of_getElem? G2
     have:=i3 sQ
     have ly:ys.length≤10:=by rw[hf.length,List.length_take];omega
     refine⟨x,pm,rfl,z4.same s2,i4 ok.2 sQ,by omega,fun u H3 s3 f3=>⟨ay (by omega),hR _ _ ⟨s2.trans s3,s3 _ _ h2,?_⟩⟩⟩
     rw[List.take_add_one,G2]
     exact (hf.same s3).snoc f3
    ·rintro ys H' ⟨s2,h2,hf⟩
     rw[MC.length,List.take_length] at hf
     refine⟨Nat.le_of_lt (ay (by rw[hf.length];omega)),fun L hL=>?_⟩
     have sL:=aq.put (o:=.lst ys) hL
     have fL:(upd H' L (.lst ys)) L=some (.lst ys):=ag
     generalize (upd H' L (.lst ys))=H3 at sL fL ⊢
     refine fun z dx hz vp sN=>⟨z,dx,L,true,ys,rfl,ag,bA.of ((t8 hz vp sN) _ _ fL),fun t ht=>⟨rfl,?_⟩⟩
     have sM:=Lv (o:=.tup ys) (o':=.ins (EH ad true) dx [("parts",.ref t)]) hz vp sN ht
     have tz:t≠z:=fun e=>by rw[e,ag] at ht;cases ht
     exact k (.ref z) _ ((s2.trans sL).trans sM) (by unfold eB;exact⟨z,dx,t,ys,rfl,ag,by rw[aF tz];exact ag,hf.same (sL.trans sM)⟩)
   | false =>
    have ha:H a=some (.tup (.str "any" :: xs)):=ha
    refine⟨a,rfl,_,df.of ha,_,(show qr _ ((0:Nat):Int)=_ from bT rfl),rfl,?_⟩
    rw[if_neg (by decide +kernel)]
    refine⟨a,rfl,_,df.of ha,_,(show qr _ ((0:Nat):Int)=_ from bT rfl),rfl,?_⟩
    rw[if_neg (by decide +kernel)]
    refine⟨a,rfl,_,df.of ha,_,(show qr _ ((0:Nat):Int)=_ from bT rfl),rfl,?_⟩
    rw[if_neg (by decide +kernel)]
    refine⟨a,rfl,_,df.of ha,_,(show qr _ ((0:Nat):Int)=_ from bT rfl),rfl,?_⟩
    rw[if_neg (by decide +kernel)]
    refine⟨a,rfl,_,df.of ha,_,(show qr _ ((0:Nat):Int)=_ from bT rfl),rfl,?_⟩
    rw[if_neg (by decide +kernel)]
    refine⟨a,rfl,_,df.of ha,_,(show qr _ ((0:Nat):Int)=_ from bT rfl),rfl,?_⟩
    rw[if_neg (by decide +kernel)]
    refine⟨a,rfl,_,df.of ha,_,(show qr _ ((0:Nat):Int)=_ from bT rfl),rfl,?_⟩
    rw[if_neg (by decide +kernel)]
    refine Dp (K:=K) (fun p1 H1=>aq H H1∧H1 p1=some (.tup xs)) (fun R r=>?_) (fun p1 H1 ⟨s1,h1⟩=>?_)
    ·and_intros
     refine⟨_,df.of ha,fun h=>absurd h Ik,fun _ p hp=>?_⟩
     rw[TQ]
     exact⟨⟨_,df.of ag⟩,r _ _ ⟨aq.put hp,ag⟩⟩
    refine uJ (K:=K) (a:=p1) (xs:=xs) (H1:=H1) (fun R r=>r) (fun i ys H'=>aq H H'∧H' p1=some (.tup xs)∧fA ad H' ys (ps.take i)) ⟨s1,h1,by rw[List.take_zero];unfold fA;trivial⟩ (fun i ys H' _ ⟨_,h,_⟩=>df.of h) ?_ ?_
    ·rintro i x ys H' R hx ⟨s2,h2,hf⟩ hR
     simp only[wQ]
     and_intros
     obtain⟨pm,G2,z4⟩:=MC.get hx
     have sQ:=List.mem_of_getElem? G2
     have:=i3 sQ
     have ly:ys.length≤10:=by rw[hf.length,List.length_take];omega
     refine⟨x,pm,rfl,z4.same s2,i4 ok.2 sQ,by omega,fun u H3 s3 f3=>⟨ay (by omega),hR _ _ ⟨s2.trans s3,s3 _ _ h2,?_⟩⟩⟩
     rw[List.take_add_one,G2]
     exact (hf.same s3).snoc f3
    ·rintro ys H' ⟨s2,h2,hf⟩
     rw[MC.length,List.take_length] at hf
     refine⟨Nat.le_of_lt (ay (by rw[hf.length];omega)),fun L hL=>?_⟩
     have sL:=aq.put (o:=.lst ys) hL
     have fL:(upd H' L (.lst ys)) L=some (.lst ys):=ag
     generalize (upd H' L (.lst ys))=H3 at sL fL ⊢
     refine fun z dx hz vp sN=>⟨z,dx,L,false,ys,rfl,ag,bA.of ((t8 hz vp sN) _ _ fL),fun t ht=>⟨rfl,?_⟩⟩
     have sM:=Lv (o:=.tup ys) (o':=.ins (EH ad false) dx [("parts",.ref t)]) hz vp sN ht
     have tz:t≠z:=fun e=>by rw[e,ag] at ht;cases ht
     exact k (.ref z) _ ((s2.trans sL).trans sM) (by unfold eB;exact⟨z,dx,t,ys,rfl,ag,by rw[aF tz];exact ag,hf.same (sL.trans sM)⟩)
theorem CL {f:Addr}{fd:FuncData} (D:Def K mg "_law_planted" kG ["_law_script","_law_kind","_law_left_here","_law_term_here"] f fd) (T:Txt K mg ad) {bS:Addr}{cu:FuncData} (a9:av P w K mg base bw 1 bS cu ["_law_script","_law_k"] (iq K)) {dZ:Addr}{ff:FuncData} (gQ:av P w K mg base bw 1 dZ ff ["_law_kind","_law_data_here"] mB) {fN:Addr}{kq:FuncData} (pz:av P w K mg base bw 3 fN kq ["_law_kind","_law_left_here","_law_cell"] oj) (aw:Def K mg "_law_cell_at" gc ["_law_script","_law_k"] bS cu) (cJ:Def K mg "_law_spots" iB ["_law_kind","_law_data_here"] dZ ff) (hW:Def K mg "_law_true_leaf" jc ["_law_kind","_law_left_here","_law_cell"] fN kq):av P w K mg base bw 4 f fd ["_law_script","_law_kind","_law_left_here","_law_term_here"] (qA K):=by
 refine D.F.ok mL (fun vs H Q E h=>?_) (fun gJ A outer s H vs Q E hr h=>?_)
 ·obtain⟨a,l,ns,d,v,tm,rfl,_⟩:=h
  rfl
 ·obtain⟨a,l,ns,d,v,tm,rfl,hS,hd,dO,ht,ok,dp,k⟩:=h
  have hu:=hr.units
  refine⟨_,(@ah _ _ _ _ _ (aP (i:=4) mL.nd rfl (Or.inl rfl) (aT a9 (hr.mono (by decide)) rfl aw.mg aw.F.kp aw.b .nil aA (ae (pv 0) (ae aj af))))
   (@ah _ _ _ _ _ (cE (PW.pt (pw_or (aL dS (aI cS (pv 4) aj) aj (aQ _)) (pw_or1 (aL (Nn hu) (aT gQ (hr.mono (by decide)) rfl cJ.mg cJ.F.kp cJ.b .nil aA (ae (pv 1) (ae (pv 2) af))) (gK af) (aQ _)))))
   (@ai _ _ _ (aK (pv 3)))
   aV)
   (@ah _ _ _ _ _ (aP (i:=5) mL.nd rfl (Or.inl rfl) (gK af))
   (@ah _ _ _ _ _ (fZ PassesOwn.never rfl (jV rfl T.range (ae (aI dF aj (aI cS (aI fO (pv 4) aj) aj)) af)) (aZ (i:=6) mL.nd rfl (Or.inl rfl))
   (@ai _ _ _ (dk (qI PySem.F.plainAttrs_list PySem.F.slot_list_append PySem.F.type_list_append gk (pv 5) (ae (aT pz (hr.mono (by decide)) rfl hW.mg hW.F.kp hW.b .nil aA (ae (pv 1) (ae (pv 2) (ae (aI dF (aI fO (pv 4) (aI dF aj (aI tO aj (pv 6)))) (aT a9 (hr.mono (by decide)) rfl aw.mg aw.F.kp aw.b .nil aA (ae (pv 0) (ae (aI dF aj (pv 6)) af)))) af)))) af)))))
   (@ah _ _ _ _ _ (cE (aL dS (aI cS (pv 4) aj) aj (aQ _))
   (@ai _ _ _ (MW (i9 (ae bI (ae (pv 3) (ae (bo cx (pv 5) aj (fun _ _=>rfl)) af)))) (MV (pv 5) aj set_list)))
   aV)
   (@ah _ _ _ _ _ (cE (aL dS (aI cS (pv 4) aj) aj (aQ _))
   (@ai _ _ _ (MW (i9 (ae bI (ae (i9 (ae bI (ae (bo cx (pv 5) aj (fun _ _=>rfl)) (ae (pv 3) af)))) (ae (i9 (ae bI (ae (bo cx (pv 5) aj (fun _ _=>rfl)) (ae (bo cx (pv 5) (Ad uX aj) (fun _ _=>rfl)) af)))) af)))) (MV (pv 5) (Ad uX aj) set_list)))
   aV)
   (@ai _ _ _ (aK (aI CO (i9 (ae bI af)) (fw oS rfl T.tuple PyProof.Rows.boot_tuple (ae (pv 5) af))))))))))),?_⟩
  refine ak fun B hB=>?_
  and_intros
  refine⟨a,ns,8,rfl,hS,fun wy=>?_⟩
  subst hB
  refine ak fun B hB=>?_
  and_intros
  refine fz (fun _=>k v tm H (aq.refl _) ht ok (by omega)) fun _=>⟨l,d,rfl,hd,dO,fun p H1 s1 h1=>⟨by decide,fun e he=>?_⟩⟩
  have se:=aq.put (o:=.lst []) he
  have fe:(upd H1 e (.lst [])) e=some (.lst []):=ag
  generalize (upd H1 e (.lst []))=H2 at se fe ⊢
  have s2:=s1.trans se
  have sm:=tf dO
  have cm:=nN sm
  have dm:=pZ (bj d)
  refine⟨_,_,.lst (bA.of (se _ _ h1)) (pY sm),.lst (bA.of fe) .nil,?_,rfl,?_⟩
  ·unfold SeqAt.shaped
   rw[Bool.and_eq_true]
   refine⟨by simp only[PyData.canLay0];exact cm,decide_eq_true ?_⟩
   simp only[PyData.depth]
   omega
  by_cases hs:bj d=[]
  ·rw[hs]
   exact⟨true,rfl,by rw[if_pos rfl];exact k v tm H2 s2 (ht.same s2) ok (by omega)⟩
  obtain⟨x0,r0,Yj⟩:=List.exists_cons_of_ne_nil hs
  rw[Yj]
  refine⟨false,rfl,?_⟩
  rw[if_neg (by decide)]
  have hd2:=hd.same s2
  have IL:=ht.same s2
  clear Yj cm dm
  subst hB
  refine ak fun B hB=>?_
  and_intros
  refine⟨by decide,fun f hf=>?_⟩
  have s3:=aq.put (o:=.lst []) hf
  have f3:(upd H2 f (.lst [])) f=some (.lst []):=ag
  generalize (upd H2 f (.lst []))=H3 at s3 f3 ⊢
  subst hB
  refine ak fun B hB=>?_
  obtain⟨n,en,n2,n4⟩:∃ n:Nat,2+wy / 4 % 3=(n:Int)∧2≤n∧n≤4:=by
   have q0:=Int.emod_nonneg (wy / 4) (show (3:Int)≠0 by decide)
   have q1:=Int.emod_lt_of_pos (wy / 4) (show (0:Int)<3 by decide)
   exact⟨(2+wy / 4 % 3).toNat,by omega,by omega,by omega⟩
  refine (show tN _ _ _ _ _ _ from ?_)
  refine (show iRng1 _ _ _ _ from ?_)
  refine mw (fun J H4=>H4=H3∧J=Fz 0 n) (fun G hG=>?_) ?_
  ·and_intros
   rw[en]
   exact⟨by omega,by omega,hG _ _ ⟨rfl,by rw[Int.toNat_natCast]⟩⟩
  rintro _ H4 ⟨Ua,rfl⟩
  subst Ua
  refine i8 (n:=n) (fun i σ H'=>aq H2 H'∧∃ (vs:List V) (oO:List Tm),H' f=some (.lst vs)∧aY H' vs oO∧Cc oO∧yB oO≤0∧vs.length=i∧∃ o6:Option V,bx σ [some (.ref a),some (.int (eE d)),some (.ref l),some v,some (.int wy),some (.ref f),o6]) ⟨s3,[],[],f3,by unfold aY;trivial,by unfold Cc;trivial,by unfold yB;exact Nat.le_refl _,rfl,none,bx.rfl⟩ ?_ ?_
  ·rintro i σ H' hi ⟨s4,vs,oO,LB,CU,MN,Uo,hv,o6,rfl⟩
   and_intros
   refine⟨.inl ⟨rfl,_,bA.of LB⟩,.inl ⟨by decide,by decide⟩,by omega,by omega,a,ns,9+i,by rw[show ((9:Int)+(0+(i:Int)))=((9+i:Nat):Int) by omega],hS.same (s2.trans s4),fun c0=>⟨c0,rfl,l,d,_,rfl,hd2.same s4,dO,hs,fun u tmu H5 s5 Z0 Z1 dpu=>?_⟩⟩
   obtain⟨oa,Bj,MF,MM⟩:=zp (k:=0) (CU.same s5) MN Uo Z0 Z1 (by omega)
   exact⟨_,s5 _ _ LB,ay (by omega),kf (s4.trans s5) hf,_,ag,oa,Bj.iz (qe (s5 _ _ LB)),MF,MM,by rw[List.length_append,hv];rfl,_,bx.rfl⟩
  rintro σ H' ⟨s4,vs,oO,LB,CU,MN,Uo,hv,o6,rfl⟩
  dsimp only
  subst hB
  refine ak fun B hB=>?_
  have rest:∀ H5 vs oO,aq H2 H5→H5 f=some (.lst vs)→aY H5 vs oO→Cc oO→yB oO≤10→(wy % 4=3→yB oO≤0)→vs.length=n→B ({ nx:=fun _ H'=>Q .cU H',rt:=Q }:Ends) [some (.ref a),some (.int (eE d)),some (.ref l),some v,some (.int wy),some (.ref f),o6] H5:=fun H5 vs oO s5 Up CU MN Uo Z2 hv=>by
   subst hB
   refine ak fun B hB=>?_
   have fin:∀ H7 vs oO,aq H2 H7→H7 f=some (.lst vs)→aY H7 vs oO→Cc oO→yB oO≤11→vs.length=n→B ({ nx:=fun _ H'=>Q .cU H',rt:=Q }:Ends) [some (.ref a),some (.int (eE d)),some (.ref l),some v,some (.int wy),some (.ref f),o6] H7:=fun H7 vs oO s7 Z3 CU MN Uo hv=>by
    subst hB
    and_intros
    have lt:=CU.length
    refine⟨by decide,fun q1 Ro=>?_⟩
    have t1:=aq.put (o:=.tup [.str "all"]) Ro
    have g1:(upd H7 q1 (.tup [.str "all"])) q1=some (.tup [.str "all"]):=ag
    generalize (upd H7 q1 (.tup [.str "all"]))=J1 at t1 g1 ⊢
    refine⟨_,bA.of (t1 _ _ Z3),fun q2 Uk=>?_⟩
    have t2:=aq.put (o:=.tup vs) Uk
    have g2:(upd J1 q2 (.tup vs)) q2=some (.tup vs):=ag
    generalize (upd J1 q2 (.tup vs))=J2 at t2 g2 ⊢
    have Pd:=t1.trans t2
    refine⟨_,df.of (t2 _ _ g1),_,df.of g2,by simp,Nat.le_of_lt (ay (by simp only[List.length_cons,List.length_nil];omega)),fun e=>?_,fun _ q3 Sj=>?_⟩
    ·rw[e] at hv
     exact absurd hv (by simp only[List.length_nil];omega)
    ·exact k (.ref q3) (.gq true oO) _ ((s2.trans (s7.trans Pd)).upd Sj) (by unfold gA;exact⟨q3,vs,rfl,ag,(CU.same Pd).same (aq.put Sj)⟩) (by unfold ma;exact⟨by omega,MN⟩) (by unfold wB;omega)
   and_intros
   refine fz (fun h3=>?_) fun _=>fin H5 vs oO s5 Up CU MN (by omega) hv
   have d3:=Z2 h3
   obtain⟨v0,Uq⟩:∃ v0,vs[0]? = some v0:=⟨_,List.getElem?_eq_getElem (by omega)⟩
   obtain⟨t0,EL,U7⟩:=CU.get Uq
   have m0:=List.mem_of_getElem? EL
   have d0:=i3 m0
   obtain⟨v1,Yk⟩:∃ v1,vs[vs.length-1]? = some v1:=⟨_,List.getElem?_eq_getElem (by omega)⟩
   obtain⟨t1,JL,Z4⟩:=CU.get Yk
   have m1:=List.mem_of_getElem? JL
   have d1:=i3 m1
   have Yl:LX vs.length (-1)=some (vs.length-1):=by
    unfold LX
    rw[if_neg (by decide),if_pos (by omega),show (-1+(vs.length:Int)).toNat=vs.length-1 by omega]
   have a0:qr vs 0=some v0:=(show qr _ ((0:Nat):Int)=_ from bT Uq)
   have a1:qr vs (-1)=some v1:=by
    unfold qr
    rw[Yl]
    exact Yk
   refine⟨_,bA.of Up,_,a0,by decide,fun q1 Ro=>?_⟩
   have U8:=aq.put (o:=.tup [.str "all",v0,v]) Ro
   have g1:(upd H5 q1 (.tup [.str "all",v0,v])) q1=some (.tup [.str "all",v0,v]):=ag
   generalize (upd H5 q1 (.tup [.str "all",v0,v]))=J1 at U8 g1 ⊢
   refine⟨_,bA.of (U8 _ _ Up),_,a0,_,bA.of (U8 _ _ Up),_,a1,by decide,fun q2 Uk=>?_⟩
   have W5:=aq.put (o:=.tup [.str "all",v0,v1]) Uk
   have g2:(upd J1 q2 (.tup [.str "all",v0,v1])) q2=some (.tup [.str "all",v0,v1]):=ag
   generalize (upd J1 q2 (.tup [.str "all",v0,v1]))=J2 at W5 g2 ⊢
   refine⟨by decide,fun q3 Sj=>?_⟩
   have U9:=aq.put (o:=.tup [.str "any",.ref q1,.ref q2]) Sj
   have g3:(upd J2 q3 (.tup [.str "any",.ref q1,.ref q2])) q3=some (.tup [.str "any",.ref q1,.ref q2]):=ag
   generalize (upd J2 q3 (.tup [.str "any",.ref q1,.ref q2]))=J3 at U9 g3 ⊢
   have RA:=(U8.trans W5).trans U9
   have Ym:=RA _ _ Up
   have Z5:=IL.same (s5.trans RA)
   have j1:gA J3 (.ref q1) (.gq true [t0,tm]):=by
    unfold gA
    exact⟨q1,[v0,v],rfl,U9 _ _ (W5 _ _ g1),Gg (U7.same RA) Z5⟩
   have j2:gA J3 (.ref q2) (.gq true [t0,t1]):=by
    unfold gA
    exact⟨q2,[v0,v1],rfl,U9 _ _ g2,Gg (U7.same RA) (Z4.same RA)⟩
   have j3:gA J3 (.ref q3) (.gq false [.gq true [t0,tm],.gq true [t0,t1]]):=by
    unfold gA
    exact⟨q3,[.ref q1,.ref q2],rfl,g3,Gg j1 j2⟩
   have o0:=i4 MN m0
   obtain⟨oa,Bj,MF,MM⟩:=Fu (k:=11) (vs.length-1) (CU.same RA) MN (by omega) j3 (Gh (Gh o0 ok true) (Gh o0 (i4 MN m1) true) false) (Gi (k:=10) (Gi (k:=9) (by omega) (by omega) true) (Gi (k:=9) (by omega) (by omega) true) false)
   exact⟨vs,Ym,vs.length-1,Yl,fin _ (vs.set (vs.length-1) (.ref q3)) oa (kf (s5.trans RA) hf) ag (Bj.iz (qe Ym)) MF MM (by rw[List.length_set];exact hv)⟩
  and_intros
  refine fz (fun h2=>?_) fun _=>rest H' vs oO s4 LB CU MN (by omega) (fun _=>Uo) hv
  obtain⟨v0,Uq⟩:∃ v0,vs[0]? = some v0:=⟨_,List.getElem?_eq_getElem (by omega)⟩
  obtain⟨t0,EL,U7⟩:=CU.get Uq
  have m0:=List.mem_of_getElem? EL
  have d0:=i3 m0
  refine⟨_,bA.of LB,_,(show qr _ ((0:Nat):Int)=_ from bT Uq),by decide,fun q hq=>?_⟩
  have sq:=aq.put (o:=.tup [.str "any",v,v0]) hq
  have fq:(upd H' q (.tup [.str "any",v,v0])) q=some (.tup [.str "any",v,v0]):=ag
  generalize (upd H' q (.tup [.str "any",v,v0]))=H6 at sq fq ⊢
  have Yn:=sq _ _ LB
  have tj:gA H6 (.ref q) (.gq false [tm,t0]):=by
   unfold gA
   exact⟨q,[v,v0],rfl,fq,Gg (IL.same (s4.trans sq)) (U7.same sq)⟩
  obtain⟨oa,Bj,MF,MM⟩:=Fu (k:=10) 0 (CU.same sq) MN (by omega) tj (Gh ok (i4 MN m0) false) (Gi (k:=9) (by omega) (by omega) false)
  have Z6:LX vs.length 0=some 0:=by
   unfold LX
   rw[if_pos (by decide),if_pos (by omega)]
   rfl
  exact⟨vs,Yn,0,Z6,rest _ (vs.set 0 (.ref q)) oa (kf (s4.trans sq) hf) ag (Bj.iz (qe Yn)) MF MM (fun h=>by omega) (by rw[List.length_set];exact hv)⟩
theorem RB {f:Addr}{fd:FuncData} (D:Def K mg "law" Dq ["_law_script"] f fd) (T:Txt K mg ad) {bS:Addr}{cu:FuncData} (a9:av P w K mg base bw 1 bS cu ["_law_script","_law_k"] (iq K)) {jM:Addr}{pT:FuncData} (vH:av P w K mg base bw 1 jM pT ["_law_cell","_law_many"] ub) {kU:Addr}{qW:FuncData} (xH:av P w K mg base bw 2 kU qW ["_law_script","_law_begin","_law_kind","_law_many","_law_names_here"] (vw K)) {kW:Addr}{qX:FuncData} (xI:av P w K mg base bw 1 kW qX ["_law_kind","_law_data_here"] (vC)) {kX:Addr}{qY:FuncData} (tF:av P w K mg base bw 2 kX qY ["_law_script","_law_begin","_law_many","_law_names_here"] (vy K)) {fX:Addr}{gY:FuncData} (gR:av P w K mg base bw 16 fX gY ["_law_term_here"] (pO ad 13)) {ig:Addr}{mR:FuncData} (rQ:av P w K mg base bw 4 ig mR ["_law_script","_law_kind","_law_left_here","_law_term_here"] (qA K)) {kY:Addr}{qZ:FuncData} (xJ:av P w K mg base bw 2 kY qZ ["_law_kind","_law_data_here","_law_places"] vB) {jN:Addr}{pU:FuncData} (vI:av P w K mg base bw 6 jN pU ["_law_kind","_law_data_here"] (ud ad)) {gU:Addr}{jH:FuncData} (nB:av P w K mg base bw 1 gU jH ["self"] (og ad)) {fS:Addr}{iR:FuncData} (lG:av P w K mg base bw 1 fS iR ["self"] (mC ad)) {eI:Addr}{gD:FuncData} (jk:av P w K mg base bw 1 eI gD ["self"] (jS ad)) {eV:Addr}{ia:FuncData} (jX:av P w K mg base bw 1 eV ia ["self"] (kO ad)) {eJ:Addr}{gF:FuncData} (jl:av P w K mg base bw 1 eJ gF ["self"] (jT ad)) {cN:Addr}{gh:FuncData} (fU:av P w K mg base bw 15 cN gh ["self"] (jh ad 13)) {gW:Addr}{jI:FuncData} (nC:av P w K mg base bw 1 gW jI ["self"] (oh ad)) {c7:Addr}{dW:FuncData} (d7:av P w K mg base bw 2 c7 dW ["self","thing"] (iE ad)) {nh:Addr}{tG:FuncData} (di:av P w K mg base (oP P w) 5 nh tG ["self","places"] (qd ad)) {iX:Addr}{oB:FuncData} (bM:av P w K mg base (oP P w) 6 iX oB ["self","places"] (kL ad)) {jO:Addr}{pW:FuncData} (b9:av P w K mg base (oP P w) 6 jO pW ["self","places"] (mr ad)) {cH:Addr}{c5:FuncData} (dn:av P w K mg base bw 2 cH c5 ["self","thing"] (gS ad)) {bP:Addr}{cn:FuncData} (cz:av P w K mg base bw 3 bP cn ["self","thing"] (fB ad)) {cj:Addr}{cK:FuncData} (cO:av P w K mg base bw 4 cj cK ["self","thing"] (gg ad)) {bQ:Addr}{cq:FuncData} (cA:av P w K mg base bw 4 bQ cq ["self","thing"] (fE ad)) {c9:Addr}{dq:FuncData} (dJ:av P w K mg base bw 18 c9 dq ["self","thing"] (iF ad 13)) {da:Addr}{dr:FuncData} (dM:av P w K mg base bw 18 da dr ["self","thing"] (iG ad 13)) {de:Addr}{du:FuncData} (dN:av P w K mg base bw 18 de du ["self","thing"] (iH ad 13)) (aw:Def K mg "_law_cell_at" gc ["_law_script","_law_k"] bS cu) (lS:Def K mg "_law_names" nS ["_law_cell","_law_many"] jM pT) (nF:Def K mg "_law_data" ju ["_law_script","_law_begin","_law_kind","_law_many","_law_names_here"] kU qW) (nG:Def K mg "_law_size" p8 ["_law_kind","_law_data_here"] kW qX) (iL:Def K mg "_law_term" qa ["_law_script","_law_begin","_law_many","_law_names_here"] kX qY) (b8:Def K mg "_law_fault" iC ["_law_term_here"] fX gY) (jr:Def K mg "_law_planted" kG ["_law_script","_law_kind","_law_left_here","_law_term_here"] ig mR) (nH:Def K mg "_law_left" jv ["_law_kind","_law_data_here","_law_places"] kY qZ) (lU:Def K mg "_law_thing" lj ["_law_kind","_law_data_here"] jN pU) (nD:Binds K jH ["self"] []) (lH:Binds K iR ["self"] []) (jm:Binds K gD ["self"] []) (jY:Binds K ia ["self"] []) (jn:Binds K gF ["self"] []) (gX:Binds K gh ["self"] []) (nE:Binds K jI ["self"] []) (d8:Binds K dW ["self","thing"] []) (dj:Binds K tG ["self","places"] []) (bN:Binds K oB ["self","places"] []) (cf:Binds K pW ["self","places"] []) (dv:Binds K c5 ["self","thing"] []) (cB:Binds K cn ["self","thing"] []) (cP:Binds K cK ["self","thing"] []) (cC:Binds K cq ["self","thing"] []) (d9:Binds K dq ["self","thing"] []) (ef:Binds K dr ["self","thing"] []) (ek:Binds K du ["self","thing"] []) (lI:Meth K ad.Fn "grows" gU) (jZ:Meth K ad.rG "grows" fS) (iu:Meth K ad.iP "grows" eI) (jo:Meth K ad.Under "grows" eV) (iw:Meth K ad.iQ "grows" eJ) (lJ:Meth K ad.All "grows" cN) (lK:Meth K ad.Any "grows" cN) (lM:Meth K ad.Not "grows" gW) (dw:Meth K ad.Fn "holds" c7) (cG:Meth K ad.Row "left" nh) (bu:Meth K ad.cF "left" iX) (bO:Meth K ad.Table "left" jO) (cQ:Meth K ad.rG "holds" cH) (bW:Meth K ad.iP "holds" bP) (cD:Meth K ad.Under "holds" cj) (bX:Meth K ad.iQ "holds" bQ) (dy:Meth K ad.All "holds" c9) (dz:Meth K ad.Any "holds" da) (dD:Meth K ad.Not "holds" de):av P w K mg base bw 19 f fd ["_law_script"] (Gf K):=by
 refine D.F.ok oX (fun vs H Q E h=>?_) (fun gJ A outer s H vs Q E hr h=>?_)
 ·obtain⟨a,ns,rfl,_⟩:=h
  rfl
 ·obtain⟨a,ns,rfl,hS,hn,k⟩:=h
  have hu:=hr.units
  refine⟨_,(@ah _ _ _ _ _ (aP (i:=1) oX.nd rfl (Or.inl rfl) (aT a9 (hr.mono (by decide)) rfl aw.mg aw.F.kp aw.b .nil aA (ae (pv 0) (ae aj af))))
   (@ah _ _ _ _ _ (aP (i:=2) oX.nd rfl (Or.inl rfl) (aT vH (hr.mono (by decide)) rfl lS.mg lS.F.kp lS.b .nil aA (ae (aT a9 (hr.mono (by decide)) rfl aw.mg aw.F.kp aw.b .nil aA (ae (pv 0) (ae aj af))) (ae aj af))))
   (@ah _ _ _ _ _ (aP (i:=3) oX.nd rfl (Or.inl rfl) (aI cS (pv 1) aj))
   (@ah _ _ _ _ _ (aP (i:=4) oX.nd rfl (Or.inl rfl) (aT xH (hr.mono (by decide)) rfl nF.mg nF.F.kp nF.b .nil aA (ae (pv 0) (ae aj (ae (pv 3) (ae (aI cS (aI fO (pv 1) aj) aj) (ae (ky sR (pv 2) pI (mH (aI dF aj (aI cS (aI dF (aI fO (pv 1) aj) (pv 1)) aj)))) af)))))))
   (@ah _ _ _ _ _ (aP (i:=5) oX.nd rfl (Or.inl rfl) (gK af))
   (@ah _ _ _ _ _ (aP (i:=6) oX.nd rfl (Or.inl rfl) (gK af))
   (@ah _ _ _ _ _ (fZ PassesOwn.never rfl (jV rfl T.range (ae (aT xI (hr.mono (by decide)) rfl nG.mg nG.F.kp nG.b .nil aA (ae (pv 3) (ae (pv 4) af))) af)) (aZ (i:=7) oX.nd rfl (Or.inl rfl))
   (@ah _ _ _ _ _ (aP (i:=8) oX.nd rfl (Or.inl rfl) (aT a9 (hr.mono (by decide)) rfl aw.mg aw.F.kp aw.b .nil aA (ae (pv 0) (ae (aI dF aj (pv 7)) af))))
   (@ah _ _ _ _ _ (cE (aL wL (aI cS (pv 8) aj) aj (aQ _))
   (@ai _ _ _ (dk (qI PySem.F.plainAttrs_list PySem.F.slot_list_append PySem.F.type_list_append gk (pv 6) (ae (pv 7) af))))
   aV)
   (@ai _ _ _ (cE (aL wL (aI cS (pv 8) aj) aj (aQ _))
   (@ai _ _ _ (dk (qI PySem.F.plainAttrs_list PySem.F.slot_list_append PySem.F.type_list_append gk (pv 5) (ae (pv 7) af))))
   aV)))))
   (@ah _ _ _ _ _ (aP (i:=9) oX.nd rfl (Or.inl rfl) (aT tF (hr.mono (by decide)) rfl iL.mg iL.F.kp iL.b .nil aA (ae (pv 0) (ae aj (ae (aI dF aj (aI cS (aT a9 (hr.mono (by decide)) rfl aw.mg aw.F.kp aw.b .nil aA (ae (pv 0) (ae aj af))) aj)) (ae (pv 2) af))))))
   (@ah _ _ _ _ _ (cE (aL dS (aI cS (aT a9 (hr.mono (by decide)) rfl aw.mg aw.F.kp aw.b .nil aA (ae (pv 0) (ae aj af))) aj) aj (aQ _))
   (@ai _ _ _ (aP (i:=9) oX.nd rfl (Or.inl rfl) (aT tF (hr.mono (by decide)) rfl iL.mg iL.F.kp iL.b .nil aA (ae (pv 0) (ae aj (ae (aI dF aj (aI cS (aT a9 (hr.mono (by decide)) rfl aw.mg aw.F.kp aw.b .nil aA (ae (pv 0) (ae aj af))) aj)) (ae (pv 2) af)))))))
   aV)
   (@ah _ _ _ _ _ (aP (i:=10) oX.nd rfl (Or.inl rfl) (aT gR (hr.mono (by decide)) rfl b8.mg b8.F.kp b8.b .nil aA (ae (aT rQ (hr.mono (by decide)) rfl jr.mg jr.F.kp jr.b .nil aA (ae (pv 0) (ae (pv 3) (ae (aT xJ (hr.mono (by decide)) rfl nH.mg nH.F.kp nH.b .nil aA (ae (pv 3) (ae (pv 4) (ae (pv 5) af)))) (ae (pv 9) af))))) af)))
   (@ah _ _ _ _ _ (aP (i:=11) oX.nd rfl (Or.inl rfl) (aT vI (hr.mono (by decide)) rfl lU.mg lU.F.kp lU.b .nil aA (ae (pv 3) (ae (pv 4) af))))
   (@ah _ _ _ _ _ (cE (PW.pt (pw_or (nJ (mS (ao (ao (ao (ao (ao (ao (ao (eo (pv 10) T.tV lI nB (hr.mono (by decide)) nD .nil aA) (eo (pv 10) T.mM jZ lG (hr.mono (by decide)) lH .nil aA)) (eo (pv 10) T.jd iu jk (hr.mono (by decide)) jm .nil aA)) (eo (pv 10) T.kK jo jX (hr.mono (by decide)) jY .nil aA)) (eo (pv 10) T.je iw jl (hr.mono (by decide)) jn .nil aA)) (eo (pv 10) T.rH lJ fU (hr.mono (by decide)) gX .nil aA)) (eo (pv 10) T.rJ lK fU (hr.mono (by decide)) gX .nil aA)) (eo (pv 10) T.kJ lM nC (hr.mono (by decide)) nE .nil aA)))) (pw_or1 (nJ (mS (ao (ao (ao (ao (ao (ao (ao (au (pv 10) T.tV dw d7 (hr.mono (by decide)) d8 .nil aA (ae (ao (ao (au (pv 11) T.fF cG di (hr.mono (by decide)) dj .nil cV (ae (pv 5) af)) (au (pv 11) T.aU bu bM (hr.mono (by decide)) bN .nil cV (ae (pv 5) af))) (au (pv 11) T.bz bO b9 (hr.mono (by decide)) cf .nil cV (ae (pv 5) af))) af)) (au (pv 10) T.mM cQ dn (hr.mono (by decide)) dv .nil aA (ae (ao (ao (au (pv 11) T.fF cG di (hr.mono (by decide)) dj .nil cV (ae (pv 5) af)) (au (pv 11) T.aU bu bM (hr.mono (by decide)) bN .nil cV (ae (pv 5) af))) (au (pv 11) T.bz bO b9 (hr.mono (by decide)) cf .nil cV (ae (pv 5) af))) af))) (au (pv 10) T.jd bW cz (hr.mono (by decide)) cB .nil aA (ae (ao (ao (au (pv 11) T.fF cG di (hr.mono (by decide)) dj .nil cV (ae (pv 5) af)) (au (pv 11) T.aU bu bM (hr.mono (by decide)) bN .nil cV (ae (pv 5) af))) (au (pv 11) T.bz bO b9 (hr.mono (by decide)) cf .nil cV (ae (pv 5) af))) af))) (au (pv 10) T.kK cD cO (hr.mono (by decide)) cP .nil aA (ae (ao (ao (au (pv 11) T.fF cG di (hr.mono (by decide)) dj .nil cV (ae (pv 5) af)) (au (pv 11) T.aU bu bM (hr.mono (by decide)) bN .nil cV (ae (pv 5) af))) (au (pv 11) T.bz bO b9 (hr.mono (by decide)) cf .nil cV (ae (pv 5) af))) af))) (au (pv 10) T.je bX cA (hr.mono (by decide)) cC .nil aA (ae (ao (ao (au (pv 11) T.fF cG di (hr.mono (by decide)) dj .nil cV (ae (pv 5) af)) (au (pv 11) T.aU bu bM (hr.mono (by decide)) bN .nil cV (ae (pv 5) af))) (au (pv 11) T.bz bO b9 (hr.mono (by decide)) cf .nil cV (ae (pv 5) af))) af))) (au (pv 10) T.rH dy dJ (hr.mono (by decide)) d9 .nil aA (ae (ao (ao (au (pv 11) T.fF cG di (hr.mono (by decide)) dj .nil cV (ae (pv 5) af)) (au (pv 11) T.aU bu bM (hr.mono (by decide)) bN .nil cV (ae (pv 5) af))) (au (pv 11) T.bz bO b9 (hr.mono (by decide)) cf .nil cV (ae (pv 5) af))) af))) (au (pv 10) T.rJ dz dM (hr.mono (by decide)) ef .nil aA (ae (ao (ao (au (pv 11) T.fF cG di (hr.mono (by decide)) dj .nil cV (ae (pv 5) af)) (au (pv 11) T.aU bu bM (hr.mono (by decide)) bN .nil cV (ae (pv 5) af))) (au (pv 11) T.bz bO b9 (hr.mono (by decide)) cf .nil cV (ae (pv 5) af))) af))) (au (pv 10) T.kJ dD dN (hr.mono (by decide)) ek .nil aA (ae (ao (ao (au (pv 11) T.fF cG di (hr.mono (by decide)) dj .nil cV (ae (pv 5) af)) (au (pv 11) T.aU bu bM (hr.mono (by decide)) bN .nil cV (ae (pv 5) af))) (au (pv 11) T.bz bO b9 (hr.mono (by decide)) cf .nil cV (ae (pv 5) af))) af))))))))
   (@ai _ _ _ (aK jP))
   aV)
   (@ai _ _ _ (aK (CY (ao (ao (ao (ao (ao (ao (ao (au (pv 10) T.tV dw d7 (hr.mono (by decide)) d8 .nil aA (ae (ao (ao (au (pv 11) T.fF cG di (hr.mono (by decide)) dj .nil cV (ae (pv 6) af)) (au (pv 11) T.aU bu bM (hr.mono (by decide)) bN .nil cV (ae (pv 6) af))) (au (pv 11) T.bz bO b9 (hr.mono (by decide)) cf .nil cV (ae (pv 6) af))) af)) (au (pv 10) T.mM cQ dn (hr.mono (by decide)) dv .nil aA (ae (ao (ao (au (pv 11) T.fF cG di (hr.mono (by decide)) dj .nil cV (ae (pv 6) af)) (au (pv 11) T.aU bu bM (hr.mono (by decide)) bN .nil cV (ae (pv 6) af))) (au (pv 11) T.bz bO b9 (hr.mono (by decide)) cf .nil cV (ae (pv 6) af))) af))) (au (pv 10) T.jd bW cz (hr.mono (by decide)) cB .nil aA (ae (ao (ao (au (pv 11) T.fF cG di (hr.mono (by decide)) dj .nil cV (ae (pv 6) af)) (au (pv 11) T.aU bu bM (hr.mono (by decide)) bN .nil cV (ae (pv 6) af))) (au (pv 11) T.bz bO b9 (hr.mono (by decide)) cf .nil cV (ae (pv 6) af))) af))) (au (pv 10) T.kK cD cO (hr.mono (by decide)) cP .nil aA (ae (ao (ao (au (pv 11) T.fF cG di (hr.mono (by decide)) dj .nil cV (ae (pv 6) af)) (au (pv 11) T.aU bu bM (hr.mono (by decide)) bN .nil cV (ae (pv 6) af))) (au (pv 11) T.bz bO b9 (hr.mono (by decide)) cf .nil cV (ae (pv 6) af))) af))) (au (pv 10) T.je bX cA (hr.mono (by decide)) cC .nil aA (ae (ao (ao (au (pv 11) T.fF cG di (hr.mono (by decide)) dj .nil cV (ae (pv 6) af)) (au (pv 11) T.aU bu bM (hr.mono (by decide)) bN .nil cV (ae (pv 6) af))) (au (pv 11) T.bz bO b9 (hr.mono (by decide)) cf .nil cV (ae (pv 6) af))) af))) (au (pv 10) T.rH dy dJ (hr.mono (by decide)) d9 .nil aA (ae (ao (ao (au (pv 11) T.fF cG di (hr.mono (by decide)) dj .nil cV (ae (pv 6) af)) (au (pv 11) T.aU bu bM (hr.mono (by decide)) bN .nil cV (ae (pv 6) af))) (au (pv 11) T.bz bO b9 (hr.mono (by decide)) cf .nil cV (ae (pv 6) af))) af))) (au (pv 10) T.rJ dz dM (hr.mono (by decide)) ef .nil aA (ae (ao (ao (au (pv 11) T.fF cG di (hr.mono (by decide)) dj .nil cV (ae (pv 6) af)) (au (pv 11) T.aU bu bM (hr.mono (by decide)) bN .nil cV (ae (pv 6) af))) (au (pv 11) T.bz bO b9 (hr.mono (by decide)) cf .nil cV (ae (pv 6) af))) af))) (au (pv 10) T.kJ dD dN (hr.mono (by decide)) ek .nil aA (ae (ao (ao (au (pv 11) T.fF cG di (hr.mono (by decide)) dj .nil cV (ae (pv 6) af)) (au (pv 11) T.aU bu bM (hr.mono (by decide)) bN .nil cV (ae (pv 6) af))) (au (pv 11) T.bz bO b9 (hr.mono (by decide)) cf .nil cV (ae (pv 6) af))) af))) (CW (ao (ao (ao (ao (ao (ao (ao (au (pv 10) T.tV dw d7 (hr.mono (by decide)) d8 .nil aA (ae (pv 11) af)) (au (pv 10) T.mM cQ dn (hr.mono (by decide)) dv .nil aA (ae (pv 11) af))) (au (pv 10) T.jd bW cz (hr.mono (by decide)) cB .nil aA (ae (pv 11) af))) (au (pv 10) T.kK cD cO (hr.mono (by decide)) cP .nil aA (ae (pv 11) af))) (au (pv 10) T.je bX cA (hr.mono (by decide)) cC .nil aA (ae (pv 11) af))) (au (pv 10) T.rH dy dJ (hr.mono (by decide)) d9 .nil aA (ae (pv 11) af))) (au (pv 10) T.rJ dz dM (hr.mono (by decide)) ef .nil aA (ae (pv 11) af))) (au (pv 10) T.kJ dD dN (hr.mono (by decide)) ek .nil aA (ae (pv 11) af))))))))))))))))))),?_⟩
  refine ak fun B hB=>?_
  and_intros
  refine⟨a,ns,0,rfl,hS,fun c=>?_⟩
  subst hB
  refine ak fun B hB=>?_
  and_intros
  refine⟨a,ns,1,rfl,hS,fun c1=>⟨c1,11,rfl,by decide,fun zs nl H1 lzs hz s1 h1=>?_⟩⟩
  subst hB
  refine ak fun B hB=>?_
  and_intros
  have k0:=Int.emod_nonneg c (show (3:Int)≠0 by decide)
  have k3:=Int.emod_lt_of_pos c (show (0:Int)<3 by decide)
  generalize c % 3=kd at k0 k3 ⊢
  subst hB
  refine ak fun B hB=>?_
  and_intros
  obtain⟨m,em⟩:=Int.eq_ofNat_of_zero_le (Int.emod_nonneg (c / 3) (show (13:Int)≠0 by decide))
  have m13:=Int.emod_lt_of_pos (c / 3) (show (0:Int)<13 by decide)
  obtain⟨r,er⟩:=Int.eq_ofNat_of_zero_le (Int.emod_nonneg (c / 39+c) (show (9:Int)≠0 by decide))
  have r9:=Int.emod_lt_of_pos (c / 39+c) (show (0:Int)<9 by decide)
  rw[em,er]
  refine⟨_,bA.of h1,fun p hp=>?_⟩
  rw[Pa (j:=2+r) (by omega) (by rw[List.length_map];omega),←List.map_take]
  have s2:=aq.put (o:=.lst ((zs.take (2+r)).map V.str)) hp
  have f2:(upd H1 p (.lst ((zs.take (2+r)).map V.str))) p=some (.lst ((zs.take (2+r)).map V.str)):=ag
  generalize (upd H1 p (.lst ((zs.take (2+r)).map V.str)))=H2 at s2 f2 ⊢
  have Bh:=s1.trans s2
  refine⟨a,p,ns,9,m,kd,zs.take (2+r),rfl,hS.same Bh,by omega,k0,k3,f2,by rw[List.length_take];omega,by rw[List.length_take];omega,fun z Rb=>hz z (List.mem_of_mem_take Rb),fun l d H3 s3 hd Z7 dO=>?_⟩
  subst Z7
  have LA:=Bh.trans s3
  have h3:=s3 _ _ (s2 _ _ h1)
  have S3:=hS.same LA
  clear f2 s2
  subst hB
  refine ak fun B hB=>?_
  and_intros
  refine⟨by decide,fun f hf=>?_⟩
  have sf:=aq.put (o:=.lst []) hf
  have f0:(upd H3 f (.lst [])) f=some (.lst []):=ag
  generalize (upd H3 f (.lst []))=H4 at sf f0 ⊢
  subst hB
  refine ak fun B hB=>?_
  and_intros
  refine⟨by decide,fun g hg=>?_⟩
  have fg:f≠g:=fun e=>by rw[e,hg] at f0;cases f0
  have Z8:H3 g=none:=by
   cases e:H3 g with
   | none=>rfl
   | some o=>rw[sf _ _ e] at hg;cases hg
  have sg:=aq.put (o:=.lst []) hg
  have g0:(upd H4 g (.lst [])) g=some (.lst []):=ag
  have f1:=sg _ _ f0
  generalize (upd H4 g (.lst []))=H5 at sg g0 f1 ⊢
  have Yo:=sf.trans sg
  subst hB
  refine ak fun B hB=>?_
  refine (show tN _ _ _ _ _ _ from ?_)
  refine (show iRng1 _ _ _ _ from ?_)
  have m40:=dO.many
  refine mw (fun J H6=>aq H5 H6∧J=Fz 0 (kM d)) (fun G hG=>?_) ?_
  ·and_intros
   exact⟨l,d,rfl,hd.same Yo,dO,fun H6 s6=>⟨_,rfl,by omega,by omega,hG _ _ ⟨s6,by rw[Int.toNat_natCast]⟩⟩⟩
  rintro _ H6 ⟨s6,rfl⟩
  refine i8 (n:=kM d) (fun i σ H'=>aq H3 H'∧∃ ps qs:List Int,H' f=some (.lst (ps.map V.int))∧H' g=some (.lst (qs.map V.int))∧placesOk 0 (i:Nat) ps∧placesOk 0 (i:Nat) qs∧ps.Sublist qs∧∃ o7 o8:Option V,bx σ [some (V.ref a),some (V.int c),some (V.ref nl),some (V.int (eE d)),some (V.ref l),some (V.ref f),some (V.ref g),o7,o8,none,none,none]) ⟨Yo.trans s6,[],[],s6 _ _ f1,s6 _ _ g0,trivial,trivial,.slnil,none,none,bx.rfl⟩ ?_ ?_
  ·rintro i σ H' hi ⟨s7,ps,qs,Ex,Ur,op,oq,sb,o7,o8,rfl⟩
   have Rk:=places_len op (by omega)
   have lqs:=places_len oq (by omega)
   have ei:(0:Int)+(i:Int)=(i:Int):=Int.zero_add _
   have mp:∀ xs:List Int,xs.map V.int++[V.int (i:Int)]=(xs++[(i:Int)]).map V.int:=fun xs=>by rw[List.map_append];rfl
   refine ak fun B2 yJ=>?_
   and_intros
   refine⟨a,ns,21+i,by rw[show (21:Int)+(0+(i:Int))=((21+i:Nat):Int) by omega],S3.same s7,fun c0=>?_⟩
   subst yJ
   and_intros
   rw[ei]
   have s8:=kf (o:=.lst ((qs++[(i:Int)]).map V.int)) s7 Z8
   have RC:(upd H' g (.lst ((qs++[(i:Int)]).map V.int))) f=some (.lst (ps.map V.int)):=by rw[aF fg];exact Ex
   refine fz (fun h1=>?_) fun h1=>?_
   ·refine⟨.inl ⟨rfl,_,bA.of Ur⟩,_,Ur,ay (by rw[List.length_map];omega),?_⟩
    rw[mp]
    refine fz (fun h2=>?_) fun h2=>?_
    ·refine⟨.inl ⟨rfl,_,bA.of RC⟩,_,RC,ay (by rw[List.length_map];omega),?_⟩
     rw[mp]
     exact⟨kf s8 hf,_,ag,_,by rw[aF (Ne.symm fg),ag],xB op,xB oq,sb.append (List.Sublist.refl _),_,_,bx.rfl⟩
    ·exact⟨s8,ps,RC,_,ag,Bf op,xB oq,sb.trans (List.sublist_append_left _ _),_,_,bx.rfl⟩
   ·rw[if_neg (by omega)]
    exact⟨s7,ps,Ex,qs,Ur,Bf op,Bf oq,sb,_,_,bx.rfl⟩
  rintro σ H' ⟨s7,ps,qs,Ex,Ur,op,oq,sb,o7,o8,rfl⟩
  dsimp only
  have S7:=S3.same s7
  have h7:=s7 _ _ h3
  subst hB
  refine ak fun B hB=>?_
  and_intros
  refine⟨a,ns,2,rfl,S7,fun c2=>⟨c2,rfl,?_⟩⟩
  obtain⟨m2,Z9⟩:=Int.eq_ofNat_of_zero_le (show 0≤1+c2 % 3 by have:=Int.emod_nonneg c2 (show (3:Int)≠0 by decide);omega)
  have q7:=Int.emod_lt_of_pos c2 (show (0:Int)<3 by decide)
  have q0:=Int.emod_nonneg c2 (show (3:Int)≠0 by decide)
  rw[Z9]
  refine⟨a,nl,ns,3,m2,zs,rfl,S7,by omega,by omega,h7,by omega,by omega,hz,fun v tm H8 s8 ht ok dp=>?_⟩
  subst hB
  refine ak fun B hB=>?_
  have rest:∀ v tm H9,aq H' H9→gA H9 v tm→ma tm→wB tm<10→B ({ nx:=fun _ H'=>Q .cU H',rt:=Q }:Ends) [some (V.ref a),some (V.int c),some (V.ref nl),some (V.int (eE d)),some (V.ref l),some (V.ref f),some (V.ref g),o7,o8,some v,none,none] H9:=fun v tm H9 s9 ht ok dp=>by
   subst hB
   refine ak fun B hB=>?_
   and_intros
   have Yp:=s7.trans s9
   refine⟨l,f,d,ps,rfl,hd.same Yp,dO,s9 _ _ Ex,op,fun l' d' HA sA Et Yq dO'=>?_⟩
   rw[←Yq]
   refine⟨a,l',ns,d',v,tm,rfl,(S7.same s9).same sA,Et,dO',ht.same sA,ok,dp,fun v2 W6 HB sB IL P7 Sk=>?_⟩
   refine⟨v2,W6,rfl,IL,P7,Sk,fun u HC sC hu=>?_⟩
   rw[Yq]
   have W7:=(sA.trans sB).trans sC
   subst hB
   refine ak fun B hB=>?_
   and_intros
   refine⟨l,d,rfl,(hd.same Yp).same W7,dO,fun p HD sD hT=>?_⟩
   have IF:=sD _ _ (W7 _ _ (s9 _ _ Ex))
   have IG:=sD _ _ (W7 _ _ (s9 _ _ Ur))
   have Va:=hu.same sD
   subst hB
   refine ak fun B hB=>?_
   and_intros
   refine Ly (n:=13) Va P7 Sk ?_ G0.go G0.go G0.go G0.go G0.go G0.go G0.go G0.go
   intro HE sE
   refine⟨_,rfl,?_⟩
   cases eg:fG W6 with
   | false=>rw[if_pos rfl];exact k _
   | true =>
    rw[if_neg (by decide)]
    have UB:placesOk 0 (kM d:Nat) ps:=op
    have oq':placesOk 0 (kM d:Nat) qs:=oq
    refine DF (n:=13) (d:=kN d ps) (Va.same sE) P7 Sk ?_ (wF.left (hT.same sE) op (sE _ _ IF)) (wF.left (hT.same sE) op (sE _ _ IF)) (wF.left (hT.same sE) op (sE _ _ IF)) (wF.left (hT.same sE) op (sE _ _ IF)) (wF.left (hT.same sE) op (sE _ _ IF)) (wF.left (hT.same sE) op (sE _ _ IF)) (wF.left (hT.same sE) op (sE _ _ IF)) (wF.left (hT.same sE) op (sE _ _ IF))
    intro HF sF dp1
    refine⟨_,rfl,?_⟩
    cases eh:cg (kN d ps) W6 with
    | false=>rw[if_pos rfl];exact k _
    | true =>
     rw[if_neg (by decide)]
     have G3:=sE.trans sF
     subst hB
     and_intros
     refine DF (n:=13) (d:=kN d qs) (Va.same G3) P7 Sk ?_ (wF.left (hT.same G3) oq (G3 _ _ IG)) (wF.left (hT.same G3) oq (G3 _ _ IG)) (wF.left (hT.same G3) oq (G3 _ _ IG)) (wF.left (hT.same G3) oq (G3 _ _ IG)) (wF.left (hT.same G3) oq (G3 _ _ IG)) (wF.left (hT.same G3) oq (G3 _ _ IG)) (wF.left (hT.same G3) oq (G3 _ _ IG)) (wF.left (hT.same G3) oq (G3 _ _ IG))
     intro HG sG dq1
     have gr:=grown (ad:=ad) dO dp1 dq1 sb oq P7 eg eh
     refine⟨_,rfl,?_⟩
     rw[gr.1,if_pos rfl]
     have Ph:=G3.trans sG
     refine DF (n:=13) (d:=d) (Va.same Ph) P7 Sk ?_ (wF.go (hT.same Ph)) (wF.go (hT.same Ph)) (wF.go (hT.same Ph)) (wF.go (hT.same Ph)) (wF.go (hT.same Ph)) (wF.go (hT.same Ph)) (wF.go (hT.same Ph)) (wF.go (hT.same Ph))
     intro HH sH _
     rw[gr.2]
     exact k _
  and_intros
  refine⟨a,ns,8,rfl,S7.same s8,fun c8=>⟨c8,rfl,?_⟩⟩
  refine fz (fun _=>?_) fun _=>rest v tm H8 s8 ht ok dp
  refine⟨a,ns,2,rfl,S7.same s8,fun c3=>⟨c3,rfl,?_⟩⟩
  obtain⟨m3,em3⟩:=Int.eq_ofNat_of_zero_le (show 0≤1+c3 % 6 by have:=Int.emod_nonneg c3 (show (6:Int)≠0 by decide);omega)
  have p7:=Int.emod_lt_of_pos c3 (show (0:Int)<6 by decide)
  have p0:=Int.emod_nonneg c3 (show (6:Int)≠0 by decide)
  rw[em3]
  exact⟨a,nl,ns,3,m3,zs,rfl,S7.same s8,by omega,by omega,s8 _ _ h7,by omega,by omega,hz,fun v tm H9 s9 ht ok dp=>rest v tm H9 (s8.trans s9) ht ok dp⟩
end
def Lies (K:PySem.W.Frag) (f:Addr) (x d:Str) (st:Stmt) (fd:FuncData):Prop:=∃ oc od kV dc pm an cd ct sl,fd=PySem.W.fnOf x d (yx st) (sS st) (ar st) .none kV dc pm an cd ct∧K.lookup f=some ⟨oc,od,.func fd,sl⟩∧PySem.W.codeIn K cd d=true∧PySem.W.keepIn K (.ref f)=true∧PySem.W.isFn K (.ref f)=true
theorem Lies.fn {K:PySem.W.Frag}{f:Addr}{x d:Str}{st:Stmt}{fd:FuncData} (h:Lies K f x d st fd):qL K x d st f fd:=by
 obtain⟨oc,od,kV,dc,pm,an,cd,ct,sl,rfl,l,c,k,_⟩:=h
 exact QI l c k
theorem Lies.kp {K:PySem.W.Frag}{f:Addr}{x d:Str}{st:Stmt}{fd:FuncData} (h:Lies K f x d st fd):PySem.W.keepIn K (.ref f)=true:=let ⟨_,_,_,_,_,_,_,_,_,_,_,_,k,_⟩:=h;k
theorem Lies.rR {K:PySem.W.Frag}{f:Addr}{x d:Str}{st:Stmt}{fd:FuncData} (h:Lies K f x d st fd):PySem.W.isFn K (.ref f)=true:=let ⟨_,_,_,_,_,_,_,_,_,_,_,_,_,n⟩:=h;n
theorem all_mk {l:PySem.W.OpenLaw}{w:World}{K:PySem.W.Frag}{h:Heap}{mg:Str→Option Value}{fa bf bY aX bU aD aM aE bg bZ b6 b7 ax aB aC aW bD az aH m9 c7 gU kT cH fS eT bP eI cj eV bQ eJ fY cN c9 da ng de gW iS j4 dX eY jJ iU iV cL fI kP eF bV dY bh bK iT m8 nh hZ gC fb cY iX cM fm eQ cZ fW jK jO fK fo bS jM kU jN dZ c6 jL kY kW fN kS kX fX ig P8:Addr} (X:K.In h) (G:h.Ns mainGlobals mg) (hfa:mg "law" = some (.ref fa))
  {tD dW jH qS c5 iR qT cn gD cK ia cq gF pS gh dq dr tE du jI kQ m6 eX ic pP oz oA dR gT qQ gB dh eZ fH jD kR tq tG mQ lF ie eG oB eP jF i7 fk iW pQ pW ko jG cu pT qW pU ff fv pR qZ qX kq qR qY gY mR RD:FuncData}{DK wq xD yQ DO yR wt:Tok}{JR JS:ClassData}
  (GD:PySem.W.nsIn K mainGlobals "Fault" = some (some (.ref bf)))
  (Oi:PySem.W.nsIn K mainGlobals "Has" = some (some (.ref bY)))
  (JT:PySem.W.nsIn K mainGlobals "Many" = some (some (.ref aX)))
  (JU:PySem.W.nsIn K mainGlobals "Pair" = some (some (.ref bU)))
  (DV:PySem.W.nsIn K mainGlobals "Before" = some (some (.ref aD)))
  (GF:PySem.W.nsIn K mainGlobals "Under" = some (some (.ref aM)))
  (DW:PySem.W.nsIn K mainGlobals "Beside" = some (some (.ref aE)))
  (GG:PySem.W.nsIn K mainGlobals "Joint" = some (some (.ref bg)))
  (Oj:PySem.W.nsIn K mainGlobals "All" = some (some (.ref bZ)))
  (Ol:PySem.W.nsIn K mainGlobals "Any" = some (some (.ref b6)))
  (Om:PySem.W.nsIn K mainGlobals "Not" = some (some (.ref b7)))
  (ui:PySem.W.nsIn K mainGlobals "ShrinkError" = some (some (.ref ax)))
  (uO:PySem.W.nsIn K mainGlobals "NoThing" = some (some (.ref aB)))
  (uP:PySem.W.nsIn K mainGlobals "NoPlace" = some (some (.ref aC)))
  (GH:PySem.W.nsIn K mainGlobals "Thing" = some (some (.ref aW)))
  (Oo:PySem.W.nsIn K mainGlobals "Row" = some (some (.ref bD)))
  (DX:PySem.W.nsIn K mainGlobals "Forest" = some (some (.ref az)))
  (GI:PySem.W.nsIn K mainGlobals "Table" = some (some (.ref aH)))
  (vJ:Lies K m9 "__init__" "Has.__init__" zc tD)
  (xK:PySem.W.findIn K (.ref bY) "holds" = some (some (.ref c7)))
  (qh:Lies K c7 "holds" "Has.holds" w9 dW)
  (xM:PySem.W.findIn K (.ref bY) "grows" = some (some (.ref gU)))
  (qi:Lies K gU "grows" "Has.grows" xa jH)
  (tH:Lies K kT "__init__" "Many.__init__" xb qS)
  (vK:PySem.W.findIn K (.ref aX) "holds" = some (some (.ref cH)))
  (oE:Lies K cH "holds" "Many.holds" vb c5)
  (vL:PySem.W.findIn K (.ref aX) "grows" = some (some (.ref fS)))
  (oF:Lies K fS "grows" "Many.grows" vd iR)
  (nI:Lies K eT "__init__" "Pair.__init__" xc qT)
  (rS:PySem.W.findIn K (.ref aD) "holds" = some (some (.ref bP)))
  (kZ:Lies K bP "holds" "Before.holds" rA cn)
  (rT:PySem.W.findIn K (.ref aD) "grows" = some (some (.ref eI)))
  (k6:Lies K eI "grows" "Before.grows" rB gD)
  (uj:PySem.W.findIn K (.ref aM) "holds" = some (some (.ref cj)))
  (mD:Lies K cj "holds" "Under.holds" tQ cK)
  (uk:PySem.W.findIn K (.ref aM) "grows" = some (some (.ref eV)))
  (mE:Lies K eV "grows" "Under.grows" tR ia)
  (rV:PySem.W.findIn K (.ref aE) "holds" = some (some (.ref bQ)))
  (k7:Lies K bQ "holds" "Beside.holds" rC cq)
  (rW:PySem.W.findIn K (.ref aE) "grows" = some (some (.ref eJ)))
  (k8:Lies K eJ "grows" "Beside.grows" rD gF)
  (oG:Lies K fY "__init__" "Joint.__init__" ve pS)
  (xN:PySem.W.findIn K (.ref bZ) "grows" = some (some (.ref cN)))
  (xO:PySem.W.findIn K (.ref b6) "grows" = some (some (.ref cN)))
  (iY:Lies K cN "grows" "Joint.grows" pJ gh)
  (xP:PySem.W.findIn K (.ref bZ) "holds" = some (some (.ref c9)))
  (qj:Lies K c9 "holds" "All.holds" xf dq)
  (xQ:PySem.W.findIn K (.ref b6) "holds" = some (some (.ref da)))
  (qk:Lies K da "holds" "Any.holds" xg dr)
  (vM:Lies K ng "__init__" "Not.__init__" zd tE)
  (xR:PySem.W.findIn K (.ref b7) "holds" = some (some (.ref de)))
  (qm:Lies K de "holds" "Not.holds" xh du)
  (xS:PySem.W.findIn K (.ref b7) "grows" = some (some (.ref gW)))
  (qo:Lies K gW "grows" "Not.grows" xi jI)
  (zF:PySem.W.nsIn K mainGlobals "is_whole" = some (some (.ref iS)))
  (zG:Lies K iS "is_whole" "is_whole" oU kQ)
  (Bk:PySem.W.nsIn K mainGlobals "is_mark" = some (some (.ref j4)))
  (Bl:Lies K j4 "is_mark" "is_mark" oV m6)
  (vN:PySem.W.nsIn K mainGlobals "check_list" = some (some (.ref dX)))
  (vO:Lies K dX "check_list" "check_list" jy eX)
  (um:PySem.W.nsIn K mainGlobals "check_marks" = some (some (.ref eY)))
  (uo:Lies K eY "check_marks" "check_marks" jW ic)
  (vP:PySem.W.nsIn K mainGlobals "check_node" = some (some (.ref jJ)))
  (vQ:Lies K jJ "check_node" "check_node" nO pP)
  (uq:PySem.W.nsIn K mainGlobals "check_nodes" = some (some (.ref iU)))
  (ur:Lies K iU "check_nodes" "check_nodes" mf oz)
  (uu:PySem.W.nsIn K mainGlobals "check_lines" = some (some (.ref iV)))
  (uv:Lies K iV "check_lines" "check_lines" mh oA)
  (rX:PySem.W.nsIn K mainGlobals "check_places" = some (some (.ref cL)))
  (rY:Lies K cL "check_places" "check_places" hX dR)
  (zH:PySem.W.nsIn K mainGlobals "marks_at" = some (some (.ref fI)))
  (zI:Lies K fI "marks_at" "marks_at" kE gT)
  (xT:PySem.W.nsIn K mainGlobals "places_of" = some (some (.ref kP)))
  (xU:Lies K kP "places_of" "places_of" ny qQ)
  (rZ:PySem.W.nsIn K mainGlobals "stands_ahead" = some (some (.ref eF)))
  (r6:Lies K eF "stands_ahead" "stands_ahead" jb gB)
  (k9:PySem.W.nsIn K mainGlobals "stands_right_ahead" = some (some (.ref bV)))
  (la:Lies K bV "stands_right_ahead" "stands_right_ahead" dH dh)
  (vR:PySem.W.findCls K (.ref aW) (.type "type") "__init__" = some (.val (.ref dY)))
  (q9:Lies K dY "__init__" "Thing.__init__" vf eZ)
  (uw:PySem.W.findIn K (.ref bD) "many_of" = some (some (.ref bh)))
  (pA:PySem.W.findIn K (.ref az) "many_of" = some (some (.ref bh)))
  (qE:PySem.W.findIn K (.ref aH) "many_of" = some (some (.ref bh)))
  (eM:Lies K bh "many_of" "Thing.many_of" qy fH)
  (qF:PySem.W.findIn K (.ref bD) "is_before" = some (some (.ref bK)))
  (ni:PySem.W.findIn K (.ref az) "is_before" = some (some (.ref bK)))
  (oH:PySem.W.findIn K (.ref aH) "is_before" = some (some (.ref bK)))
  (dE:Lies K bK "is_before" "Thing.is_before" nP jD)
  (vS:Lies K iT "__init__" "Row.__init__" ze kR)
  (zJ:PySem.W.findIn K (.ref bD) "many" = some (some (.ref m8)))
  (sd:Lies K m8 "many" "Row.many" zf tq)
  (zK:PySem.W.findIn K (.ref bD) "left" = some (some (.ref nh)))
  (sh:Lies K nh "left" "Row.left" zg tG)
  (si:PySem.W.findIn K (.ref bD) "is_under" = some (some (.ref hZ)))
  (lb:Lies K hZ "is_under" "Row.is_under" rE mQ)
  (qG:PySem.W.findIn K (.ref bD) "is_beside" = some (some (.ref gC)))
  (jU:Lies K gC "is_beside" "Row.is_beside" qz lF)
  (pX:Lies K fb "__init__" "Forest.__init__" pK ie)
  (ux:PySem.W.findIn K (.ref az) "many" = some (some (.ref cY)))
  (mF:Lies K cY "many" "Forest.many" tS eG)
  (uy:PySem.W.findIn K (.ref az) "left" = some (some (.ref iX)))
  (mG:Lies K iX "left" "Forest.left" pL oB)
  (oI:PySem.W.findIn K (.ref az) "standing" = some (some (.ref cM)))
  (iM:Lies K cM "standing" "Forest.standing" nQ eP)
  (oJ:PySem.W.findIn K (.ref az) "is_under" = some (some (.ref fm)))
  (iN:Lies K fm "is_under" "Forest.is_under" nR jF)
  (nj:PySem.W.findIn K (.ref az) "is_beside" = some (some (.ref eQ)))
  (ij:Lies K eQ "is_beside" "Forest.is_beside" mV i7)
  (pB:PySem.W.findIn K (.ref az) "hanging" = some (some (.ref cZ)))
  (js:Lies K cZ "hanging" "Forest.hanging" oW fk)
  (rf:Lies K fW "__init__" "Table.__init__" qO iW)
  (vT:PySem.W.findIn K (.ref aH) "many" = some (some (.ref jK)))
  (oK:Lies K jK "many" "Table.many" vg pQ)
  (vU:PySem.W.findIn K (.ref aH) "left" = some (some (.ref jO)))
  (oM:Lies K jO "left" "Table.left" lg pW)
  (pC:PySem.W.findIn K (.ref aH) "is_under" = some (some (.ref fK)))
  (jt:Lies K fK "is_under" "Table.is_under" lh ko)
  (oN:PySem.W.findIn K (.ref aH) "is_beside" = some (some (.ref fo)))
  (iO:Lies K fo "is_beside" "Table.is_beside" kh jG)
  (sj:PySem.W.nsIn K mainGlobals "_law_cell_at" = some (some (.ref bS)))
  (sk:Lies K bS "_law_cell_at" "_law_cell_at" gc cu)
  (vV:PySem.W.nsIn K mainGlobals "_law_names" = some (some (.ref jM)))
  (vW:Lies K jM "_law_names" "_law_names" nS pT)
  (xV:PySem.W.nsIn K mainGlobals "_law_data" = some (some (.ref kU)))
  (xW:Lies K kU "_law_data" "_law_data" ju qW)
  (vX:PySem.W.nsIn K mainGlobals "_law_thing" = some (some (.ref jN)))
  (vY:Lies K jN "_law_thing" "_law_thing" lj pU)
  (vZ:PySem.W.nsIn K mainGlobals "_law_spots" = some (some (.ref dZ)))
  (v5:Lies K dZ "_law_spots" "_law_spots" iB ff)
  (pD:PySem.W.nsIn K mainGlobals "_law_next_deep" = some (some (.ref c6)))
  (pE:Lies K c6 "_law_next_deep" "_law_next_deep" g9 fv)
  (v7:PySem.W.nsIn K mainGlobals "_law_pairs" = some (some (.ref jL)))
  (v8:Lies K jL "_law_pairs" "_law_pairs" nU pR)
  (xX:PySem.W.nsIn K mainGlobals "_law_left" = some (some (.ref kY)))
  (xY:Lies K kY "_law_left" "_law_left" jv qZ)
  (xZ:PySem.W.nsIn K mainGlobals "_law_size" = some (some (.ref kW)))
  (x8:Lies K kW "_law_size" "_law_size" p8 qX)
  (pF:PySem.W.nsIn K mainGlobals "_law_true_leaf" = some (some (.ref fN)))
  (pG:Lies K fN "_law_true_leaf" "_law_true_leaf" jc kq)
  (x9:PySem.W.nsIn K mainGlobals "_law_leaf" = some (some (.ref kS)))
  (ya:Lies K kS "_law_leaf" "_law_leaf" p9 qR)
  (yb:PySem.W.nsIn K mainGlobals "_law_term" = some (some (.ref kX)))
  (yc:Lies K kX "_law_term" "_law_term" qa qY)
  (v9:PySem.W.nsIn K mainGlobals "_law_fault" = some (some (.ref fX)))
  (wa:Lies K fX "_law_fault" "_law_fault" iC gY)
  (so:PySem.W.nsIn K mainGlobals "_law_planted" = some (some (.ref ig)))
  (sr:Lies K ig "_law_planted" "_law_planted" kG mR)
  (LC:PySem.W.nsIn K mainGlobals "law" = some (some (.ref P8)))
  (LD:Lies K P8 "law" "law" Dq RD)
  (Oq:PySem.W.nsIn K mainGlobals "all" = some none)
  (Ot:PySem.W.nsIn K mainGlobals "any" = some none)
  (JV:PySem.W.nsIn K mainGlobals "bool" = some none)
  (JW:PySem.W.nsIn K mainGlobals "dict" = some none)
  (yd:PySem.W.nsIn K mainGlobals "enumerate" = some none)
  (Ou:PySem.W.nsIn K mainGlobals "int" = some none)
  (wb:PySem.W.nsIn K mainGlobals "isinstance" = some none)
  (Ov:PySem.W.nsIn K mainGlobals "len" = some none)
  (JX:PySem.W.nsIn K mainGlobals "list" = some none)
  (Ow:PySem.W.nsIn K mainGlobals "min" = some none)
  (GJ:PySem.W.nsIn K mainGlobals "range" = some none)
  (Ox:PySem.W.nsIn K mainGlobals "str" = some none)
  (GK:PySem.W.nsIn K mainGlobals "tuple" = some none)
  (Oy:PySem.W.nsIn K mainGlobals "zip" = some none)
  (uK:PySem.W.nsIn K mainGlobals "LETTERS" = some (some (.str Jm DK)))
  (kH:PySem.W.nsIn K mainGlobals "LONGEST_MARK" = some (some (.int 8 wq)))
  (ml:PySem.W.nsIn K mainGlobals "MOST_IN_ROW" = some (some (.int 40 xD)))
  (nZ:PySem.W.nsIn K mainGlobals "MOST_NODES" = some (some (.int 40 yQ)))
  (uL:PySem.W.nsIn K mainGlobals "DEEPEST" = some (some (.int 12 DO)))
  (n5:PySem.W.nsIn K mainGlobals "MOST_LINES" = some (some (.int 12 yR)))
  (kI:PySem.W.nsIn K mainGlobals "MOST_COLUMNS" = some (some (.int 12 wt)))
  (zL:PySem.W.excIn K aC [.type "ValueError",.type "Exception",.type "BaseException",.type "object"] "ValueError.__new__" = true)
  (zM:PySem.W.findIn K (.ref aC) "__getattribute__" = some (some (.builtin "BaseException.__getattribute__")))
  (zN:PySem.W.findIn K (.ref aC) "__getattr__" = some none)
  (zO:PySem.W.findIn K (.ref aC) "__class__" = some (some (.builtin "object.__class__")))
  (zP:PySem.W.mroIn K aC (.type "object")=some true)
  (zQ:PySem.W.subIn K (.ref aC) (.type "BaseException")=some true)
  (zR:PySem.W.clsIn K aC=some JR)
  (zS:PySem.W.excIn K aB [.type "ValueError",.type "Exception",.type "BaseException",.type "object"] "ValueError.__new__" = true)
  (zT:PySem.W.findIn K (.ref aB) "__getattribute__" = some (some (.builtin "BaseException.__getattribute__")))
  (zU:PySem.W.findIn K (.ref aB) "__getattr__" = some none)
  (zV:PySem.W.findIn K (.ref aB) "__class__" = some (some (.builtin "object.__class__")))
  (zW:PySem.W.mroIn K aB (.type "object")=some true)
  (zX:PySem.W.subIn K (.ref aB) (.type "BaseException")=some true)
  (zY:PySem.W.clsIn K aB=some JS)
  (JY:PySem.W.plainGet K bZ Str.empty=true)
  (JZ:PySem.W.hasDictIn K bZ=true)
  (J9:PySem.W.plainOver K bZ=true)
  (Ka:PySem.W.findIn K (.ref bZ) "__setattr__" = some (some (.builtin "object.__setattr__")))
  (ye:PySem.W.findIn K (.ref bZ) "parts" = some none)
  (Kb:PySem.W.findIn K (.ref bZ) "__class__" = some (some (.builtin "object.__class__")))
  (Kc:PySem.W.mroIn K bZ (.type "object")=some true)
  (Kd:PySem.W.plainGet K b6 Str.empty=true)
  (Ke:PySem.W.hasDictIn K b6=true)
  (Kf:PySem.W.plainOver K b6=true)
  (Kg:PySem.W.findIn K (.ref b6) "__setattr__" = some (some (.builtin "object.__setattr__")))
  (yf:PySem.W.findIn K (.ref b6) "parts" = some none)
  (Kh:PySem.W.findIn K (.ref b6) "__class__" = some (some (.builtin "object.__class__")))
  (Ki:PySem.W.mroIn K b6 (.type "object")=some true)
  (Bm:PySem.W.plainGet K aD Str.empty=true)
  (Bn:PySem.W.hasDictIn K aD=true)
  (Bo:PySem.W.plainOver K aD=true)
  (Bp:PySem.W.findIn K (.ref aD) "__setattr__" = some (some (.builtin "object.__setattr__")))
  (wc:PySem.W.findIn K (.ref aD) "one" = some none)
  (su:PySem.W.findIn K (.ref aD) "other" = some none)
  (Bq:PySem.W.findIn K (.ref aD) "__class__" = some (some (.builtin "object.__class__")))
  (Br:PySem.W.mroIn K aD (.type "object")=some true)
  (Bs:PySem.W.plainGet K aE Str.empty=true)
  (Bt:PySem.W.hasDictIn K aE=true)
  (Bu:PySem.W.plainOver K aE=true)
  (Bv:PySem.W.findIn K (.ref aE) "__setattr__" = some (some (.builtin "object.__setattr__")))
  (we:PySem.W.findIn K (.ref aE) "one" = some none)
  (sv:PySem.W.findIn K (.ref aE) "other" = some none)
  (Bw:PySem.W.findIn K (.ref aE) "__class__" = some (some (.builtin "object.__class__")))
  (Bx:PySem.W.mroIn K aE (.type "object")=some true)
  (By:PySem.W.plainGet K az Str.empty=true)
  (Bz:PySem.W.hasDictIn K az=true)
  (BA:PySem.W.plainOver K az=true)
  (BB:PySem.W.findIn K (.ref az) "__setattr__" = some (some (.builtin "object.__setattr__")))
  (sy:PySem.W.findIn K (.ref az) "nodes" = some none)
  (l9:PySem.W.findIn K (.ref az) "spot_marks" = some none)
  (BD:PySem.W.findIn K (.ref az) "__class__" = some (some (.builtin "object.__class__")))
  (BE:PySem.W.mroIn K az (.type "object")=some true)
  (Kj:PySem.W.plainGet K bY Str.empty=true)
  (Kk:PySem.W.hasDictIn K bY=true)
  (Kl:PySem.W.plainOver K bY=true)
  (Km:PySem.W.findIn K (.ref bY) "__setattr__" = some (some (.builtin "object.__setattr__")))
  (zZ:PySem.W.findIn K (.ref bY) "mark" = some none)
  (Kn:PySem.W.findIn K (.ref bY) "__class__" = some (some (.builtin "object.__class__")))
  (Ko:PySem.W.mroIn K bY (.type "object")=some true)
  (GL:PySem.W.plainGet K aX Str.empty=true)
  (GN:PySem.W.hasDictIn K aX=true)
  (GO:PySem.W.plainOver K aX=true)
  (GP:PySem.W.findIn K (.ref aX) "__setattr__" = some (some (.builtin "object.__setattr__")))
  (yg:PySem.W.findIn K (.ref aX) "mark" = some none)
  (uz:PySem.W.findIn K (.ref aX) "number" = some none)
  (GQ:PySem.W.findIn K (.ref aX) "__class__" = some (some (.builtin "object.__class__")))
  (GR:PySem.W.mroIn K aX (.type "object")=some true)
  (Kp:PySem.W.plainGet K b7 Str.empty=true)
  (Kq:PySem.W.hasDictIn K b7=true)
  (Kr:PySem.W.plainOver K b7=true)
  (Ks:PySem.W.findIn K (.ref b7) "__setattr__" = some (some (.builtin "object.__setattr__")))
  (z3:PySem.W.findIn K (.ref b7) "part" = some none)
  (Kt:PySem.W.findIn K (.ref b7) "__class__" = some (some (.builtin "object.__class__")))
  (Ku:PySem.W.mroIn K b7 (.type "object")=some true)
  (Kv:PySem.W.plainGet K bD Str.empty=true)
  (Kw:PySem.W.hasDictIn K bD=true)
  (Kx:PySem.W.plainOver K bD=true)
  (Ky:PySem.W.findIn K (.ref bD) "__setattr__" = some (some (.builtin "object.__setattr__")))
  (pH:PySem.W.findIn K (.ref bD) "spot_marks" = some none)
  (Kz:PySem.W.findIn K (.ref bD) "__class__" = some (some (.builtin "object.__class__")))
  (KA:PySem.W.mroIn K bD (.type "object")=some true)
  (DY:PySem.W.plainGet K aH Str.empty=true)
  (DZ:PySem.W.hasDictIn K aH=true)
  (D4:PySem.W.plainOver K aH=true)
  (D5:PySem.W.findIn K (.ref aH) "__setattr__" = some (some (.builtin "object.__setattr__")))
  (qH:PySem.W.findIn K (.ref aH) "columns" = some none)
  (uA:PySem.W.findIn K (.ref aH) "lines" = some none)
  (nk:PySem.W.findIn K (.ref aH) "spot_marks" = some none)
  (D6:PySem.W.findIn K (.ref aH) "__class__" = some (some (.builtin "object.__class__")))
  (D7:PySem.W.mroIn K aH (.type "object")=some true)
  (D8:PySem.W.plainGet K aM Str.empty=true)
  (D9:PySem.W.hasDictIn K aM=true)
  (Ea:PySem.W.plainOver K aM=true)
  (Eb:PySem.W.findIn K (.ref aM) "__setattr__" = some (some (.builtin "object.__setattr__")))
  (yh:PySem.W.findIn K (.ref aM) "one" = some none)
  (uB:PySem.W.findIn K (.ref aM) "other" = some none)
  (Ec:PySem.W.findIn K (.ref aM) "__class__" = some (some (.builtin "object.__class__")))
  (Ed:PySem.W.mroIn K aM (.type "object")=some true)
  (r7:PySem.W.specialIn K (.builtin "object.__class__") "__get__" = some (some (.builtin "getset_descriptor.__get__")))
  (r8:PySem.W.takesIn K (.builtin "object.__class__")=some true)
  (KC:PySem.W.findIn K (.ref bZ) "__init__" = some (some (.ref fY)))
  (KD:PySem.W.makesIn K bZ=true)
  (KG:PySem.W.keepIn K (.ref bZ)=true)
  (KH:PySem.W.findIn K (.ref b6) "__init__" = some (some (.ref fY)))
  (KI:PySem.W.makesIn K b6=true)
  (KJ:PySem.W.keepIn K (.ref b6)=true)
  (BF:PySem.W.findIn K (.ref aD) "__init__" = some (some (.ref eT)))
  (BG:PySem.W.makesIn K aD=true)
  (BH:PySem.W.keepIn K (.ref aD)=true)
  (BI:PySem.W.findIn K (.ref aE) "__init__" = some (some (.ref eT)))
  (BJ:PySem.W.makesIn K aE=true)
  (BK:PySem.W.keepIn K (.ref aE)=true)
  (BL:PySem.W.findIn K (.ref az) "__init__" = some (some (.ref fb)))
  (BM:PySem.W.makesIn K az=true)
  (BN:PySem.W.keepIn K (.ref az)=true)
  (KL:PySem.W.findIn K (.ref bY) "__init__" = some (some (.ref m9)))
  (KN:PySem.W.makesIn K bY=true)
  (KO:PySem.W.keepIn K (.ref bY)=true)
  (GS:PySem.W.findIn K (.ref aX) "__init__" = some (some (.ref kT)))
  (GU:PySem.W.makesIn K aX=true)
  (GV:PySem.W.keepIn K (.ref aX)=true)
  (KP:PySem.W.findIn K (.ref b7) "__init__" = some (some (.ref ng)))
  (KQ:PySem.W.makesIn K b7=true)
  (KR:PySem.W.keepIn K (.ref b7)=true)
  (KS:PySem.W.findIn K (.ref bD) "__init__" = some (some (.ref iT)))
  (KU:PySem.W.makesIn K bD=true)
  (KW:PySem.W.keepIn K (.ref bD)=true)
  (Ee:PySem.W.findIn K (.ref aH) "__init__" = some (some (.ref fW)))
  (Ef:PySem.W.makesIn K aH=true)
  (Eg:PySem.W.keepIn K (.ref aH)=true)
  (Eh:PySem.W.findIn K (.ref aM) "__init__" = some (some (.ref eT)))
  (Ei:PySem.W.makesIn K aM=true)
  (Ej:PySem.W.keepIn K (.ref aM)=true)
  (BO:PySem.W.specialIn K (.ref aW) "__getattribute__" = some (some (.builtin "type.__getattribute__")))
  (BP:PySem.W.readsIn K aW (.type "type")=true) :
  ∃ fd:FuncData,(∀ (s:Shared) (v:Value),BindsTo s fd ⟨[v],[]⟩ [("_law_script",v)])∧∀ base:Heap,K.In base→base.Ns mainGlobals mg→av l.prog w K mg base bw 19 fa fd ["_law_script"] (Gf K):=by
 have e:=hfa.symm.trans (PySem.W.mg_of X G LC)
 cases e
 have T:Txt K mg ⟨bf,bY,aX,bU,aD,aM,aE,bg,bZ,b6,b7,ax,aB,aC,aW,bD,az,aH⟩:=⟨PySem.W.mg_none_of X G Oq,PySem.W.mg_none_of X G Ot,PySem.W.mg_none_of X G JV,PySem.W.mg_none_of X G JW,PySem.W.mg_none_of X G yd,PySem.W.mg_none_of X G Ou,PySem.W.mg_none_of X G wb,PySem.W.mg_none_of X G Ov,PySem.W.mg_none_of X G JX,PySem.W.mg_none_of X G Ow,PySem.W.mg_none_of X G GJ,PySem.W.mg_none_of X G Ox,PySem.W.mg_none_of X G GK,PySem.W.mg_none_of X G Oy,PySem.W.mg_of X G GD,PySem.W.mg_of X G Oi,PySem.W.mg_of X G JT,PySem.W.mg_of X G JU,PySem.W.mg_of X G DV,PySem.W.mg_of X G GF,PySem.W.mg_of X G DW,PySem.W.mg_of X G GG,PySem.W.mg_of X G Oj,PySem.W.mg_of X G Ol,PySem.W.mg_of X G Om,PySem.W.mg_of X G ui,PySem.W.mg_of X G uO,PySem.W.mg_of X G uP,PySem.W.mg_of X G GH,PySem.W.mg_of X G Oo,PySem.W.mg_of X G DX,PySem.W.mg_of X G GI,⟨_,PySem.W.mg_of X G uK⟩,⟨_,PySem.W.mg_of X G kH⟩,⟨_,PySem.W.mg_of X G ml⟩,⟨_,PySem.W.mg_of X G nZ⟩,⟨_,PySem.W.mg_of X G uL⟩,⟨_,PySem.W.mg_of X G n5⟩,⟨_,PySem.W.mg_of X G kI⟩,⟨PySem.W.mg_of X G uP,uP,zL⟩,⟨zM,zN,zO,zP,zQ,by rw[zR];rfl⟩,⟨PySem.W.mg_of X G uO,uO,zS⟩,⟨zT,zU,zV,zW,zX,by rw[zY];rfl⟩,⟨JY,JZ,J9,Ka⟩,ye,Kb,Kc,⟨Kd,Ke,Kf,Kg⟩,yf,Kh,Ki,⟨Bm,Bn,Bo,Bp⟩,wc,su,Bq,Br,⟨Bs,Bt,Bu,Bv⟩,we,sv,Bw,Bx,⟨By,Bz,BA,BB⟩,sy,l9,BD,BE,⟨Kj,Kk,Kl,Km⟩,zZ,Kn,Ko,⟨GL,GN,GO,GP⟩,yg,uz,GQ,GR,⟨Kp,Kq,Kr,Ks⟩,z3,Kt,Ku,⟨Kv,Kw,Kx,Ky⟩,pH,Kz,KA,⟨DY,DZ,D4,D5⟩,qH,uA,nk,D6,D7,⟨D8,D9,Ea,Eb⟩,yh,uB,Ec,Ed,r7,r8⟩
 have Ek:=vJ.fn
 have zD:Binds K _ ["self","mark"] []:=Ek.binds (ps:=["self","mark"]) fun _ _ _ _ _ _ us hl=>match us,hl with | [_,_],_=>rfl
 have Ce:=qh.fn
 have d8:Binds K _ ["self","thing"] []:=Ce.binds (ps:=["self","thing"]) fun _ _ _ _ _ _ us hl=>match us,hl with | [_,_],_=>rfl
 have Cf:=qi.fn
 have nD:Binds K _ ["self"] []:=Cf.binds (ps:=["self"]) fun _ _ _ _ _ _ us hl=>match us,hl with | [_],_=>rfl
 have Cg:=tH.fn
 have xG:Binds K _ ["self","number","mark"] []:=Cg.binds (ps:=["self","number","mark"]) fun _ _ _ _ _ _ us hl=>match us,hl with | [_,_,_],_=>rfl
 have AK:=oE.fn
 have dv:Binds K _ ["self","thing"] []:=AK.binds (ps:=["self","thing"]) fun _ _ _ _ _ _ us hl=>match us,hl with | [_,_],_=>rfl
 have AL:=oF.fn
 have lH:Binds K _ ["self"] []:=AL.binds (ps:=["self"]) fun _ _ _ _ _ _ us hl=>match us,hl with | [_],_=>rfl
 have Ci:=nI.fn
 have qg:Binds K _ ["self","one","other"] []:=Ci.binds (ps:=["self","one","other"]) fun _ _ _ _ _ _ us hl=>match us,hl with | [_,_,_],_=>rfl
 have yi:=kZ.fn
 have cB:Binds K _ ["self","thing"] []:=yi.binds (ps:=["self","thing"]) fun _ _ _ _ _ _ us hl=>match us,hl with | [_,_],_=>rfl
 have yj:=k6.fn
 have jm:Binds K _ ["self"] []:=yj.binds (ps:=["self"]) fun _ _ _ _ _ _ us hl=>match us,hl with | [_],_=>rfl
 have yS:=mD.fn
 have cP:Binds K _ ["self","thing"] []:=yS.binds (ps:=["self","thing"]) fun _ _ _ _ _ _ us hl=>match us,hl with | [_,_],_=>rfl
 have yT:=mE.fn
 have jY:Binds K _ ["self"] []:=yT.binds (ps:=["self"]) fun _ _ _ _ _ _ us hl=>match us,hl with | [_],_=>rfl
 have yk:=k7.fn
 have cC:Binds K _ ["self","thing"] []:=yk.binds (ps:=["self","thing"]) fun _ _ _ _ _ _ us hl=>match us,hl with | [_,_],_=>rfl
 have yl:=k8.fn
 have jn:Binds K _ ["self"] []:=yl.binds (ps:=["self"]) fun _ _ _ _ _ _ us hl=>match us,hl with | [_],_=>rfl
 have AN:=oG.fn
 have qV:Binds K _ ["self","parts"] []:=AN.binds (ps:=["self","parts"]) fun _ _ _ _ _ _ us hl=>match us,hl with | [_,_],_=>rfl
 have uC:=iY.fn
 have gX:Binds K _ ["self"] []:=uC.binds (ps:=["self"]) fun _ _ _ _ _ _ us hl=>match us,hl with | [_],_=>rfl
 have ym:=qj.fn
 have d9:Binds K _ ["self","thing"] []:=ym.binds (ps:=["self","thing"]) fun _ _ _ _ _ _ us hl=>match us,hl with | [_,_],_=>rfl
 have yn:=qk.fn
 have ef:Binds K _ ["self","thing"] []:=yn.binds (ps:=["self","thing"]) fun _ _ _ _ _ _ us hl=>match us,hl with | [_,_],_=>rfl
 have El:=vM.fn
 have zE:Binds K _ ["self","part"] []:=El.binds (ps:=["self","part"]) fun _ _ _ _ _ _ us hl=>match us,hl with | [_,_],_=>rfl
 have yo:=qm.fn
 have ek:Binds K _ ["self","thing"] []:=yo.binds (ps:=["self","thing"]) fun _ _ _ _ _ _ us hl=>match us,hl with | [_,_],_=>rfl
 have Cj:=qo.fn
 have nE:Binds K _ ["self"] []:=Cj.binds (ps:=["self"]) fun _ _ _ _ _ _ us hl=>match us,hl with | [_],_=>rfl
 have Em:=zG.fn
 have ib:Def K mg "is_whole" oU ["thing"] iS _:=⟨Em,PySem.W.mg_of X G zF,Em.binds (ps:=["thing"]) fun _ _ _ _ _ _ us hl=>match us,hl with | [_],_=>rfl⟩
 have Fx:=Bl.fn
 have jq:Def K mg "is_mark" oV ["thing"] j4 _:=⟨Fx,PySem.W.mg_of X G Bk,Fx.binds (ps:=["thing"]) fun _ _ _ _ _ _ us hl=>match us,hl with | [_],_=>rfl⟩
 have AO:=vO.fn
 have cI:Def K mg "check_list" jy ["thing","most"] dX _:=⟨AO,PySem.W.mg_of X G vN,AO.binds (ps:=["thing","most"]) fun _ _ _ _ _ _ us hl=>match us,hl with | [_,_],_=>rfl⟩
 have yU:=uo.fn
 have eK:Def K mg "check_marks" jW ["marks","most"] eY _:=⟨yU,PySem.W.mg_of X G um,yU.binds (ps:=["marks","most"]) fun _ _ _ _ _ _ us hl=>match us,hl with | [_,_],_=>rfl⟩
 have AQ:=vQ.fn
 have lN:Def K mg "check_node" nO ["node","deepest"] jJ _:=⟨AQ,PySem.W.mg_of X G vP,AQ.binds (ps:=["node","deepest"]) fun _ _ _ _ _ _ us hl=>match us,hl with | [_,_],_=>rfl⟩
 have yV:=ur.fn
 have j6:Def K mg "check_nodes" mf ["nodes"] iU _:=⟨yV,PySem.W.mg_of X G uq,yV.binds (ps:=["nodes"]) fun _ _ _ _ _ _ us hl=>match us,hl with | [_],_=>rfl⟩
 have yW:=uv.fn
 have j9:Def K mg "check_lines" mh ["lines"] iV _:=⟨yW,PySem.W.mg_of X G uu,yW.binds (ps:=["lines"]) fun _ _ _ _ _ _ us hl=>match us,hl with | [_],_=>rfl⟩
 have yp:=rY.fn
 have bR:Def K mg "check_places" hX ["places","many"] cL _:=⟨yp,PySem.W.mg_of X G rX,yp.binds (ps:=["places","many"]) fun _ _ _ _ _ _ us hl=>match us,hl with | [_,_],_=>rfl⟩
 have En:=zI.fn
 have d5:Def K mg "marks_at" kE ["marks","places"] fI _:=⟨En,PySem.W.mg_of X G zH,En.binds (ps:=["marks","places"]) fun _ _ _ _ _ _ us hl=>match us,hl with | [_,_],_=>rfl⟩
 have Ck:=xU.fn
 have nA:Def K mg "places_of" ny ["marks","mark"] kP _:=⟨Ck,PySem.W.mg_of X G xT,Ck.binds (ps:=["marks","mark"]) fun _ _ _ _ _ _ us hl=>match us,hl with | [_,_],_=>rfl⟩
 have yq:=r6.fn
 have dI:Def K mg "stands_ahead" jb ["marks","one","other"] eF _:=⟨yq,PySem.W.mg_of X G rZ,yq.binds (ps:=["marks","one","other"]) fun _ _ _ _ _ _ us hl=>match us,hl with | [_,_,_],_=>rfl⟩
 have qp:=la.fn
 have bG:Def K mg "stands_right_ahead" dH ["marks","one","other"] bV _:=⟨qp,PySem.W.mg_of X G k9,qp.binds (ps:=["marks","one","other"]) fun _ _ _ _ _ _ us hl=>match us,hl with | [_,_,_],_=>rfl⟩
 have AR:=q9.fn
 have gP:Binds K _ ["self","spot_marks"] []:=AR.binds (ps:=["self","spot_marks"]) fun _ _ _ _ _ _ us hl=>match us,hl with | [_,_],_=>rfl
 have wu:=eM.fn
 have dQ:Binds K _ ["self","mark"] []:=wu.binds (ps:=["self","mark"]) fun _ _ _ _ _ _ us hl=>match us,hl with | [_,_],_=>rfl
 have tI:=dE.fn
 have iJ:Binds K _ ["self","one","other"] []:=tI.binds (ps:=["self","one","other"]) fun _ _ _ _ _ _ us hl=>match us,hl with | [_,_,_],_=>rfl
 have Eo:=vS.fn
 have px:Binds K _ ["self","marks"] []:=Eo.binds (ps:=["self","marks"]) fun _ _ _ _ _ _ us hl=>match us,hl with | [_,_],_=>rfl
 have Ep:=sd.fn
 have zA:Binds K _ ["self"] []:=Ep.binds (ps:=["self"]) fun _ _ _ _ _ _ us hl=>match us,hl with | [_],_=>rfl
 have Er:=sh.fn
 have dj:Binds K _ ["self","places"] []:=Er.binds (ps:=["self","places"]) fun _ _ _ _ _ _ us hl=>match us,hl with | [_,_],_=>rfl
 have yr:=lb.fn
 have rP:Binds K _ ["self","one","other"] []:=yr.binds (ps:=["self","one","other"]) fun _ _ _ _ _ _ us hl=>match us,hl with | [_,_,_],_=>rfl
 have wx:=jU.fn
 have qD:Binds K _ ["self","one","other"] []:=wx.binds (ps:=["self","one","other"]) fun _ _ _ _ _ _ us hl=>match us,hl with | [_,_,_],_=>rfl
 have yX:=pX.fn
 have j8:Binds K _ ["self","nodes"] []:=yX.binds (ps:=["self","nodes"]) fun _ _ _ _ _ _ us hl=>match us,hl with | [_,_],_=>rfl
 have yY:=mF.fn
 have fR:Binds K _ ["self"] []:=yY.binds (ps:=["self"]) fun _ _ _ _ _ _ us hl=>match us,hl with | [_],_=>rfl
 have yZ:=mG.fn
 have bN:Binds K _ ["self","places"] []:=yZ.binds (ps:=["self","places"]) fun _ _ _ _ _ _ us hl=>match us,hl with | [_,_],_=>rfl
 have tJ:=iM.fn
 have gv:Binds K _ ["self","mark"] []:=tJ.binds (ps:=["self","mark"]) fun _ _ _ _ _ _ us hl=>match us,hl with | [_,_],_=>rfl
 have tK:=iN.fn
 have ou:Binds K _ ["self","one","other"] []:=tK.binds (ps:=["self","one","other"]) fun _ _ _ _ _ _ us hl=>match us,hl with | [_,_,_],_=>rfl
 have sI:=ij.fn
 have m4:Binds K _ ["self","one","other"] []:=sI.binds (ps:=["self","one","other"]) fun _ _ _ _ _ _ us hl=>match us,hl with | [_,_,_],_=>rfl
 have uQ:=js.fn
 have hV:Binds K _ ["self","place"] []:=uQ.binds (ps:=["self","place"]) fun _ _ _ _ _ _ us hl=>match us,hl with | [_,_],_=>rfl
 have AS:=rf.fn
 have lP:Binds K _ ["self","lines"] []:=AS.binds (ps:=["self","lines"]) fun _ _ _ _ _ _ us hl=>match us,hl with | [_,_],_=>rfl
 have AU:=oK.fn
 have vF:Binds K _ ["self"] []:=AU.binds (ps:=["self"]) fun _ _ _ _ _ _ us hl=>match us,hl with | [_],_=>rfl
 have AV:=oM.fn
 have cf:Binds K _ ["self","places"] []:=AV.binds (ps:=["self","places"]) fun _ _ _ _ _ _ us hl=>match us,hl with | [_,_],_=>rfl
 have uR:=jt.fn
 have ph:Binds K _ ["self","one","other"] []:=uR.binds (ps:=["self","one","other"]) fun _ _ _ _ _ _ us hl=>match us,hl with | [_,_,_],_=>rfl
 have tL:=iO.fn
 have oy:Binds K _ ["self","one","other"] []:=tL.binds (ps:=["self","one","other"]) fun _ _ _ _ _ _ us hl=>match us,hl with | [_,_,_],_=>rfl
 have yt:=sk.fn
 have aw:Def K mg "_law_cell_at" gc ["_law_script","_law_k"] bS _:=⟨yt,PySem.W.mg_of X G sj,yt.binds (ps:=["_law_script","_law_k"]) fun _ _ _ _ _ _ us hl=>match us,hl with | [_,_],_=>rfl⟩
 have AW:=vW.fn
 have lS:Def K mg "_law_names" nS ["_law_cell","_law_many"] jM _:=⟨AW,PySem.W.mg_of X G vV,AW.binds (ps:=["_law_cell","_law_many"]) fun _ _ _ _ _ _ us hl=>match us,hl with | [_,_],_=>rfl⟩
 have Cm:=xW.fn
 have nF:Def K mg "_law_data" ju ["_law_script","_law_begin","_law_kind","_law_many","_law_names_here"] kU _:=⟨Cm,PySem.W.mg_of X G xV,Cm.binds (ps:=["_law_script","_law_begin","_law_kind","_law_many","_law_names_here"]) fun _ _ _ _ _ _ us hl=>match us,hl with | [_,_,_,_,_],_=>rfl⟩
 have AX:=vY.fn
 have lU:Def K mg "_law_thing" lj ["_law_kind","_law_data_here"] jN _:=⟨AX,PySem.W.mg_of X G vX,AX.binds (ps:=["_law_kind","_law_data_here"]) fun _ _ _ _ _ _ us hl=>match us,hl with | [_,_],_=>rfl⟩
 have AY:=v5.fn
 have cJ:Def K mg "_law_spots" iB ["_law_kind","_law_data_here"] dZ _:=⟨AY,PySem.W.mg_of X G vZ,AY.binds (ps:=["_law_kind","_law_data_here"]) fun _ _ _ _ _ _ us hl=>match us,hl with | [_,_],_=>rfl⟩
 have uS:=pE.fn
 have bL:Def K mg "_law_next_deep" g9 ["_law_data_here","_law_i"] c6 _:=⟨uS,PySem.W.mg_of X G pD,uS.binds (ps:=["_law_data_here","_law_i"]) fun _ _ _ _ _ _ us hl=>match us,hl with | [_,_],_=>rfl⟩
 have AZ:=v8.fn
 have lQ:Def K mg "_law_pairs" nU ["_law_kind","_law_data_here","_law_word"] jL _:=⟨AZ,PySem.W.mg_of X G v7,AZ.binds (ps:=["_law_kind","_law_data_here","_law_word"]) fun _ _ _ _ _ _ us hl=>match us,hl with | [_,_,_],_=>rfl⟩
 have Cn:=xY.fn
 have nH:Def K mg "_law_left" jv ["_law_kind","_law_data_here","_law_places"] kY _:=⟨Cn,PySem.W.mg_of X G xX,Cn.binds (ps:=["_law_kind","_law_data_here","_law_places"]) fun _ _ _ _ _ _ us hl=>match us,hl with | [_,_,_],_=>rfl⟩
 have Co:=x8.fn
 have nG:Def K mg "_law_size" p8 ["_law_kind","_law_data_here"] kW _:=⟨Co,PySem.W.mg_of X G xZ,Co.binds (ps:=["_law_kind","_law_data_here"]) fun _ _ _ _ _ _ us hl=>match us,hl with | [_,_],_=>rfl⟩
 have uT:=pG.fn
 have hW:Def K mg "_law_true_leaf" jc ["_law_kind","_law_left_here","_law_cell"] fN _:=⟨uT,PySem.W.mg_of X G pF,uT.binds (ps:=["_law_kind","_law_left_here","_law_cell"]) fun _ _ _ _ _ _ us hl=>match us,hl with | [_,_,_],_=>rfl⟩
 have Cp:=ya.fn
 have iK:Def K mg "_law_leaf" p9 ["_law_cell","_law_names_here"] kS _:=⟨Cp,PySem.W.mg_of X G x9,Cp.binds (ps:=["_law_cell","_law_names_here"]) fun _ _ _ _ _ _ us hl=>match us,hl with | [_,_],_=>rfl⟩
 have Cq:=yc.fn
 have iL:Def K mg "_law_term" qa ["_law_script","_law_begin","_law_many","_law_names_here"] kX _:=⟨Cq,PySem.W.mg_of X G yb,Cq.binds (ps:=["_law_script","_law_begin","_law_many","_law_names_here"]) fun _ _ _ _ _ _ us hl=>match us,hl with | [_,_,_,_],_=>rfl⟩
 have A0:=wa.fn
 have b8:Def K mg "_law_fault" iC ["_law_term_here"] fX _:=⟨A0,PySem.W.mg_of X G v9,A0.binds (ps:=["_law_term_here"]) fun _ _ _ _ _ _ us hl=>match us,hl with | [_],_=>rfl⟩
 have yu:=sr.fn
 have jr:Def K mg "_law_planted" kG ["_law_script","_law_kind","_law_left_here","_law_term_here"] ig _:=⟨yu,PySem.W.mg_of X G so,yu.binds (ps:=["_law_script","_law_kind","_law_left_here","_law_term_here"]) fun _ _ _ _ _ _ us hl=>match us,hl with | [_,_,_,_],_=>rfl⟩
 have P9:=LD.fn
 have Us:Def K mg "law" Dq ["_law_script"] fa _:=⟨P9,PySem.W.mg_of X G LC,P9.binds (ps:=["_law_script"]) fun _ _ _ _ _ _ us hl=>match us,hl with | [_],_=>rfl⟩
 have Og:Mk K bZ fY:=⟨KD,KC,oG.rR,KG⟩
 have Oh:Mk K b6 fY:=⟨KI,KH,oG.rR,KJ⟩
 have DT:Mk K aD eT:=⟨BG,BF,nI.rR,BH⟩
 have DU:Mk K aE eT:=⟨BJ,BI,nI.rR,BK⟩
 have uN:Mk K az fb:=⟨BM,BL,pX.rR,BN⟩
 have Od:Mk K bY m9:=⟨KN,KL,vJ.rR,KO⟩
 have JQ:Mk K aX kT:=⟨GU,GS,tH.rR,GV⟩
 have Oe:Mk K b7 ng:=⟨KQ,KP,vM.rR,KR⟩
 have Fw:Mk K bD iT:=⟨KU,KS,vS.rR,KW⟩
 have yC:Mk K aH fW:=⟨Ef,Ee,rf.rR,Eg⟩
 have GC:Mk K aM eT:=⟨Ei,Eh,nI.rR,Ej⟩
 have fV:Np K aW "__init__" dY:=⟨BO,BP,vR,q9.kp⟩
 have ji:Meth K bD "many_of" bh:=⟨uw,eM.rR,eM.kp⟩
 have gs:Meth K az "many_of" bh:=⟨pA,eM.rR,eM.kp⟩
 have hJ:Meth K aH "many_of" bh:=⟨qE,eM.rR,eM.kp⟩
 have pe:Meth K bD "is_before" bK:=⟨qF,dE.rR,dE.kp⟩
 have l4:Meth K az "is_before" bK:=⟨ni,dE.rR,dE.kp⟩
 have mX:Meth K aH "is_before" bK:=⟨oH,dE.rR,dE.kp⟩
 have qB:Meth K bD "is_under" hZ:=⟨si,lb.rR,lb.kp⟩
 have mY:Meth K az "is_under" fm:=⟨oJ,iN.rR,iN.kp⟩
 have ow:Meth K aH "is_under" fK:=⟨pC,jt.rR,jt.kp⟩
 have pj:Meth K bD "is_beside" gC:=⟨qG,jU.rR,jU.kp⟩
 have l6:Meth K az "is_beside" eQ:=⟨nj,ij.rR,ij.kp⟩
 have m5:Meth K aH "is_beside" fo:=⟨oN,iO.rR,iO.kp⟩
 have lI:Meth K bY "grows" gU:=⟨xM,qi.rR,qi.kp⟩
 have jZ:Meth K aX "grows" fS:=⟨vL,oF.rR,oF.kp⟩
 have iu:Meth K aD "grows" eI:=⟨rT,k6.rR,k6.kp⟩
 have jo:Meth K aM "grows" eV:=⟨uk,mE.rR,mE.kp⟩
 have iw:Meth K aE "grows" eJ:=⟨rW,k8.rR,k8.kp⟩
 have lJ:Meth K bZ "grows" cN:=⟨xN,iY.rR,iY.kp⟩
 have lK:Meth K b6 "grows" cN:=⟨xO,iY.rR,iY.kp⟩
 have lM:Meth K b7 "grows" gW:=⟨xS,qo.rR,qo.kp⟩
 have dw:Meth K bY "holds" c7:=⟨xK,qh.rR,qh.kp⟩
 have cQ:Meth K aX "holds" cH:=⟨vK,oE.rR,oE.kp⟩
 have bW:Meth K aD "holds" bP:=⟨rS,kZ.rR,kZ.kp⟩
 have cD:Meth K aM "holds" cj:=⟨uj,mD.rR,mD.kp⟩
 have bX:Meth K aE "holds" bQ:=⟨rV,k7.rR,k7.kp⟩
 have dy:Meth K bZ "holds" c9:=⟨xP,qj.rR,qj.kp⟩
 have dz:Meth K b6 "holds" da:=⟨xQ,qk.rR,qk.kp⟩
 have dD:Meth K b7 "holds" de:=⟨xR,qm.rR,qm.kp⟩
 have xE:Meth K bD "many" m8:=⟨zJ,sd.rR,sd.kp⟩
 have fj:Meth K az "many" cY:=⟨ux,mF.rR,mF.kp⟩
 have fJ:Meth K az "standing" cM:=⟨oI,iM.rR,iM.kp⟩
 have gw:Meth K az "hanging" cZ:=⟨pB,js.rR,js.kp⟩
 have uh:Meth K aH "many" jK:=⟨vT,oK.rR,oK.kp⟩
 have cG:Meth K bD "left" nh:=⟨zK,sh.rR,sh.kp⟩
 have bu:Meth K az "left" iX:=⟨uy,mG.rR,mG.kp⟩
 have bO:Meth K aH "left" jO:=⟨vU,oM.rR,oM.kp⟩
 obtain⟨W8,W9,RE,RF,RG,RH,RI,RJ,Xa,rfl,_⟩:=id LD
 refine⟨PySem.W.fnOf "law" "law" (yx Dq) (sS Dq) (ar Dq) .none RE RF RG RH RI RJ,fun s v=>.of_eq rfl,fun base _ _=>?_⟩
 have zB:av l.prog w K mg base bw 1 m9 _ ["self","mark"] (xw ⟨bf,bY,aX,bU,aD,aM,aE,bg,bZ,b6,b7,ax,aB,aC,aW,bD,az,aH⟩):=Iu Ek T
 have dP:av l.prog w K mg base bw 1 bh _ ["self","mark"] (pd ⟨bf,bY,aX,bU,aD,aM,aE,bg,bZ,b6,b7,ax,aB,aC,aW,bD,az,aH⟩):=Bg wu T
 have d7:av l.prog w K mg base bw 2 c7 _ ["self","thing"] (iE ⟨bf,bY,aX,bU,aD,aM,aE,bg,bZ,b6,b7,ax,aB,aC,aW,bD,az,aH⟩):=Gj Ce T dP dQ ji gs hJ
 have nB:av l.prog w K mg base bw 1 gU _ ["self"] (og ⟨bf,bY,aX,bU,aD,aM,aE,bg,bZ,b6,b7,ax,aB,aC,aW,bD,az,aH⟩):=Gk Cf T
 have xF:av l.prog w K mg base bw 1 kT _ ["self","number","mark"] (vt ⟨bf,bY,aX,bU,aD,aM,aE,bg,bZ,b6,b7,ax,aB,aC,aW,bD,az,aH⟩):=Gm Cg T
 have dn:av l.prog w K mg base bw 2 cH _ ["self","thing"] (gS ⟨bf,bY,aX,bU,aD,aM,aE,bg,bZ,b6,b7,ax,aB,aC,aW,bD,az,aH⟩):=EJ AK T dP dQ ji gs hJ
 have lG:av l.prog w K mg base bw 1 fS _ ["self"] (mC ⟨bf,bY,aX,bU,aD,aM,aE,bg,bZ,b6,b7,ax,aB,aC,aW,bD,az,aH⟩):=EK AL T
 have qf:av l.prog w K mg base bw 1 eT _ ["self","one","other"] (vv ⟨bf,bY,aX,bU,aD,aM,aE,bg,bZ,b6,b7,ax,aB,aC,aW,bD,az,aH⟩):=Gn Ci T
 have jj:av l.prog w K mg base bw 1 eF _ ["marks","one","other"] (mO K):=CC dI T
 have iI:av l.prog w K mg base bw 2 bK _ ["self","one","other"] (lD ⟨bf,bY,aX,bU,aD,aM,aE,bg,bZ,b6,b7,ax,aB,aC,aW,bD,az,aH⟩):=zr tI T jj dI
 have cz:av l.prog w K mg base bw 3 bP _ ["self","thing"] (fB ⟨bf,bY,aX,bU,aD,aM,aE,bg,bZ,b6,b7,ax,aB,aC,aW,bD,az,aH⟩):=CD yi T iI iJ pe l4 mX
 have jk:av l.prog w K mg base bw 1 eI _ ["self"] (jS ⟨bf,bY,aX,bU,aD,aM,aE,bg,bZ,b6,b7,ax,aB,aC,aW,bD,az,aH⟩):=CF yj T
 have rO:av l.prog w K mg base bw 1 hZ _ ["self","one","other"] mP:=CG yr T
 have xC:av l.prog w K mg base bw 1 kP _ ["marks","mark"] (vq K):=Gp nA T
 have gu:av l.prog w K mg base bw 2 cM _ ["self","mark"] (jA ⟨bf,bY,aX,bU,aD,aM,aE,bg,bZ,b6,b7,ax,aB,aC,aW,bD,az,aH⟩):=zu tJ T xC nA
 have jE:av l.prog w K mg base bw 1 fI _ ["marks","places"] (qc K):=Iw d5 T
 have fQ:av l.prog w K mg base bw 1 cY _ ["self"] (Au ⟨bf,bY,aX,bU,aD,aM,aE,bg,bZ,b6,b7,ax,aB,aC,aW,bD,az,aH⟩):=DG yY T
 have hU:av l.prog w K mg base bw 2 cZ _ ["self","place"] (kj ⟨bf,bY,aX,bU,aD,aM,aE,bg,bZ,b6,b7,ax,aB,aC,aW,bD,az,aH⟩):=AG uQ T fQ fR fj
 have om:av l.prog w K mg base bw 3 fm _ ["self","one","other"] (jB ⟨bf,bY,aX,bU,aD,aM,aE,bg,bZ,b6,b7,ax,aB,aC,aW,bD,az,aH⟩):=zw tK T gu jE hU d5 gv hV fJ gw
 have pf:av l.prog w K mg base bw 2 fK _ ["self","one","other"] (kl ⟨bf,bY,aX,bU,aD,aM,aE,bg,bZ,b6,b7,ax,aB,aC,aW,bD,az,aH⟩):=AH uR T jj dI
 have cO:av l.prog w K mg base bw 4 cj _ ["self","thing"] (gg ⟨bf,bY,aX,bU,aD,aM,aE,bg,bZ,b6,b7,ax,aB,aC,aW,bD,az,aH⟩):=DH yS T rO om pf rP ou ph qB mY ow
 have jX:av l.prog w K mg base bw 1 eV _ ["self"] (kO ⟨bf,bY,aX,bU,aD,aM,aE,bg,bZ,b6,b7,ax,aB,aC,aW,bD,az,aH⟩):=DI yT T
 have eR:av l.prog w K mg base bw 1 bV _ ["marks","one","other"] ik:=wC bG T
 have qC:av l.prog w K mg base bw 2 gC _ ["self","one","other"] (lE ⟨bf,bY,aX,bU,aD,aM,aE,bg,bZ,b6,b7,ax,aB,aC,aW,bD,az,aH⟩):=Bi wx T eR bG
 have mZ:av l.prog w K mg base bw 3 eQ _ ["self","one","other"] (i6 ⟨bf,bY,aX,bU,aD,aM,aE,bg,bZ,b6,b7,ax,aB,aC,aW,bD,az,aH⟩):=yI sI T gu hU fQ gv hV fR fJ gw fj
 have ox:av l.prog w K mg base bw 2 fo _ ["self","one","other"] (jC ⟨bf,bY,aX,bU,aD,aM,aE,bg,bZ,b6,b7,ax,aB,aC,aW,bD,az,aH⟩):=zx tL T eR bG
 have cA:av l.prog w K mg base bw 4 bQ _ ["self","thing"] (fE ⟨bf,bY,aX,bU,aD,aM,aE,bg,bZ,b6,b7,ax,aB,aC,aW,bD,az,aH⟩):=CH yk T qC mZ ox qD m4 oy pj l6 m5
 have jl:av l.prog w K mg base bw 1 eJ _ ["self"] (jT ⟨bf,bY,aX,bU,aD,aM,aE,bg,bZ,b6,b7,ax,aB,aC,aW,bD,az,aH⟩):=CI yl T
 have qU:av l.prog w K mg base bw 1 fY _ ["self","parts"] (ua K ⟨bf,bY,aX,bU,aD,aM,aE,bg,bZ,b6,b7,ax,aB,aC,aW,bD,az,aH⟩):=EM AN T
 have nC:av l.prog w K mg base bw 1 gW _ ["self"] (oh ⟨bf,bY,aX,bU,aD,aM,aE,bg,bZ,b6,b7,ax,aB,aC,aW,bD,az,aH⟩):=Gq Cj T
 have Xb:∀ n:Nat,(av l.prog w K mg base bw (n+2) cN gh ["self"] (jh ⟨bf,bY,aX,bU,aD,aM,aE,bg,bZ,b6,b7,ax,aB,aC,aW,bD,az,aH⟩ n)):=by
  intro n
  induction n with
  | zero=>exact uC.ok xj (fun vs H Q E h=>by obtain⟨_,_,_,_,_,_,h,_⟩:=h;exact (absurd h (Nat.not_lt_zero _))) (fun gJ A outer s H vs Q E hr h=>by obtain⟨_,_,_,_,_,_,h,_⟩:=h;exact (absurd h (Nat.not_lt_zero _)))
  | succ n ih =>
   have fU:=ih
   exact DJ uC T nB lG jk jX jl fU nC nD lH jm jY jn gX nE lI jZ iu jo iw lJ lK lM
 have fU:=Xb 13
 have Xc:∀ n:Nat,(av l.prog w K mg base bw (n+5) c9 dq ["self","thing"] (iF ⟨bf,bY,aX,bU,aD,aM,aE,bg,bZ,b6,b7,ax,aB,aC,aW,bD,az,aH⟩ n))∧(av l.prog w K mg base bw (n+5) da dr ["self","thing"] (iG ⟨bf,bY,aX,bU,aD,aM,aE,bg,bZ,b6,b7,ax,aB,aC,aW,bD,az,aH⟩ n))∧(av l.prog w K mg base bw (n+5) de du ["self","thing"] (iH ⟨bf,bY,aX,bU,aD,aM,aE,bg,bZ,b6,b7,ax,aB,aC,aW,bD,az,aH⟩ n)):=by
  intro n
  induction n with
  | zero=>exact⟨ym.ok vh (fun vs H Q E h=>by obtain⟨_,_,_,_,_,_,_,_,h,_⟩:=h;exact (absurd h (Nat.not_lt_zero _))) (fun gJ A outer s H vs Q E hr h=>by obtain⟨_,_,_,_,_,_,_,_,h,_⟩:=h;exact (absurd h (Nat.not_lt_zero _))),yn.ok vi (fun vs H Q E h=>by obtain⟨_,_,_,_,_,_,_,_,h,_⟩:=h;exact (absurd h (Nat.not_lt_zero _))) (fun gJ A outer s H vs Q E hr h=>by obtain⟨_,_,_,_,_,_,_,_,h,_⟩:=h;exact (absurd h (Nat.not_lt_zero _))),yo.ok Aq (fun vs H Q E h=>by obtain⟨_,_,_,_,_,_,_,_,h,_⟩:=h;exact (absurd h (Nat.not_lt_zero _))) (fun gJ A outer s H vs Q E hr h=>by obtain⟨_,_,_,_,_,_,_,_,h,_⟩:=h;exact (absurd h (Nat.not_lt_zero _)))⟩
  | succ n ih =>
   obtain⟨dJ,dM,dN⟩:=ih
   exact⟨Gr ym T d7 dn cz cO cA dJ dM dN d8 dv cB cP cC d9 ef ek dw cQ bW cD bX dy dz dD,Gs yn T d7 dn cz cO cA dJ dM dN d8 dv cB cP cC d9 ef ek dw cQ bW cD bX dy dz dD,Gu yo T d7 dn cz cO cA dJ dM dN d8 dv cB cP cC d9 ef ek dw cQ bW cD bX dy dz dD⟩
 obtain⟨dJ,dM,dN⟩:=Xc 13
 have zC:av l.prog w K mg base bw 1 ng _ ["self","part"] (xx ⟨bf,bY,aX,bU,aD,aM,aE,bg,bZ,b6,b7,ax,aB,aC,aW,bD,az,aH⟩):=Iy El T
 have pk:av l.prog w K mg base bw 1 iS _ ["thing"] sX:=Iz ib T
 have rh:av l.prog w K mg base bw 1 j4 _ ["thing"] vn:=JM jq T
 have gN:av l.prog w K mg base (oP l.prog w) 1 dX _ ["thing","most"] (mq ⟨bf,bY,aX,bU,aD,aM,aE,bg,bZ,b6,b7,ax,aB,aC,aW,bD,az,aH⟩):=EN cI T
 have j5:av l.prog w K mg base (oP l.prog w) 2 eY _ ["marks","most"] (n9 ⟨bf,bY,aX,bU,aD,aM,aE,bg,bZ,b6,b7,ax,aB,aC,aW,bD,az,aH⟩):=DM eK T gN rh cI jq
 have vD:av l.prog w K mg base (oP l.prog w) 2 jJ _ ["node","deepest"] (tW ⟨bf,bY,aX,bU,aD,aM,aE,bg,bZ,b6,b7,ax,aB,aC,aW,bD,az,aH⟩):=EO lN T rh pk jq ib
 have uf:av l.prog w K mg base (oP l.prog w) 3 iU _ ["nodes"] (rK ⟨bf,bY,aX,bU,aD,aM,aE,bg,bZ,b6,b7,ax,aB,aC,aW,bD,az,aH⟩):=DN j6 T gN vD cI lN
 have ug:av l.prog w K mg base (oP l.prog w) 3 iV _ ["lines"] (rL ⟨bf,bY,aX,bU,aD,aM,aE,bg,bZ,b6,b7,ax,aB,aC,aW,bD,az,aH⟩):=DP j9 T gN j5 cI eK
 have fu:av l.prog w K mg base (oP l.prog w) 2 cL _ ["places","many"] (jR ⟨bf,bY,aX,bU,aD,aM,aE,bg,bZ,b6,b7,ax,aB,aC,aW,bD,az,aH⟩):=CJ bR T pk ib
 have gO:av l.prog w K mg base bw 1 dY _ ["self","spot_marks"] (mn ⟨bf,bY,aX,bU,aD,aM,aE,bg,bZ,b6,b7,ax,aB,aC,aW,bD,az,aH⟩):=ER AR T
 have pq:av l.prog w K mg base (oP l.prog w) 3 iT _ ["self","marks"] (sY ⟨bf,bY,aX,bU,aD,aM,aE,bg,bZ,b6,b7,ax,aB,aC,aW,bD,az,aH⟩):=IA Eo T j5 gO eK gP fV
 have zy:av l.prog w K mg base bw 1 m8 _ ["self"] (xp ⟨bf,bY,aX,bU,aD,aM,aE,bg,bZ,b6,b7,ax,aB,aC,aW,bD,az,aH⟩):=IB Ep T
 have di:av l.prog w K mg base (oP l.prog w) 5 nh _ ["self","places"] (qd ⟨bf,bY,aX,bU,aD,aM,aE,bg,bZ,b6,b7,ax,aB,aC,aW,bD,az,aH⟩):=IC Er T fu zy pq jE bR d5 zA px xE Fw
 have j7:av l.prog w K mg base (oP l.prog w) 4 fb _ ["self","nodes"] (n6 ⟨bf,bY,aX,bU,aD,aM,aE,bg,bZ,b6,b7,ax,aB,aC,aW,bD,az,aH⟩):=DR yX T uf gO j6 gP fV
 have bM:av l.prog w K mg base (oP l.prog w) 6 iX _ ["self","places"] (kL ⟨bf,bY,aX,bU,aD,aM,aE,bg,bZ,b6,b7,ax,aB,aC,aW,bD,az,aH⟩):=DS yZ T fu fQ j7 bR fR j8 fj uN
 have lO:av l.prog w K mg base (oP l.prog w) 4 fW _ ["self","lines"] (pN ⟨bf,bY,aX,bU,aD,aM,aE,bg,bZ,b6,b7,ax,aB,aC,aW,bD,az,aH⟩):=ET AS T ug gO j9 gP fV
 have vE:av l.prog w K mg base bw 1 jK _ ["self"] (tX ⟨bf,bY,aX,bU,aD,aM,aE,bg,bZ,b6,b7,ax,aB,aC,aW,bD,az,aH⟩):=EU AU T
 have b9:av l.prog w K mg base (oP l.prog w) 6 jO _ ["self","places"] (mr ⟨bf,bY,aX,bU,aD,aM,aE,bg,bZ,b6,b7,ax,aB,aC,aW,bD,az,aH⟩):=EV AV T fu vE lO jE bR d5 vF lP uh yC
 have a9:av l.prog w K mg base bw 1 bS _ ["_law_script","_law_k"] (iq K):=CK aw T
 have vH:av l.prog w K mg base bw 1 jM _ ["_law_cell","_law_many"] ub:=EW lS T
 have xH:av l.prog w K mg base bw 2 kU _ ["_law_script","_law_begin","_law_kind","_law_many","_law_names_here"] (vw K):=Gx nF T a9 aw
 have vI:av l.prog w K mg base bw 6 jN _ ["_law_kind","_law_data_here"] (ud ⟨bf,bY,aX,bU,aD,aM,aE,bg,bZ,b6,b7,ax,aB,aC,aW,bD,az,aH⟩):=EX lU T pq j7 lO px j8 lP Fw uN yC
 have gQ:av l.prog w K mg base bw 1 dZ _ ["_law_kind","_law_data_here"] mB:=EY cJ T
 have fM:av l.prog w K mg base bw 1 c6 _ ["_law_data_here","_law_i"] kn:=AI bL T
 have vG:av l.prog w K mg base bw 2 jL _ ["_law_kind","_law_data_here","_law_word"] uc:=EZ lQ T gQ fM cJ bL
 have xJ:av l.prog w K mg base bw 2 kY _ ["_law_kind","_law_data_here","_law_places"] vB:=Gy nH T fM bL
 have xI:av l.prog w K mg base bw 1 kW _ ["_law_kind","_law_data_here"] (vC):=Gz nG T
 have pz:av l.prog w K mg base bw 3 fN _ ["_law_kind","_law_left_here","_law_cell"] oj:=AJ hW T gQ vG cJ lQ
 have tu:av l.prog w K mg base bw 1 kS _ ["_law_cell","_law_names_here"] vx:=GA iK T
 have tF:av l.prog w K mg base bw 2 kX _ ["_law_script","_law_begin","_law_many","_law_names_here"] (vy K):=GB iL T tu a9 iK aw
 have Xd:∀ n:Nat,(av l.prog w K mg base bw (n+3) fX gY ["_law_term_here"] (pO ⟨bf,bY,aX,bU,aD,aM,aE,bg,bZ,b6,b7,ax,aB,aC,aW,bD,az,aH⟩ n)):=by
  intro n
  induction n with
  | zero=>exact b8.F.ok yN (fun vs H Q E h=>by obtain⟨_,_,_,_,_,h,_⟩:=h;exact (absurd h (Nat.not_lt_zero _))) (fun gJ A outer s H vs Q E hr h=>by obtain⟨_,_,_,_,_,h,_⟩:=h;exact (absurd h (Nat.not_lt_zero _)))
  | succ n ih =>
   have gR:=ih
   exact E1 b8 T zB xF qf zC gR qU b8 zD xG qg zE qV Od JQ DT GC DU Oe Og Oh
 have gR:=Xd 13
 have rQ:av l.prog w K mg base bw 4 ig _ ["_law_script","_law_kind","_law_left_here","_law_term_here"] (qA K):=CL jr T a9 gQ pz aw cJ hW
 exact RB Us T a9 vH xH xI tF gR rQ xJ vI nB lG jk jX jl fU nC d7 di bM b9 dn cz cO cA dJ dM dN aw lS nF nG iL b8 jr nH lU nD lH jm jY jn gX nE d8 dj bN cf dv cB cP cC d9 ef ek lI jZ iu jo iw lJ lK lM dw cG bu bO cQ bW cD bX dy dz dD
theorem walk {l:PySem.W.OpenLaw}{q:Program}{loose:List Str}{XP:(Str→Option Value)→Heap→Prop}{YP:World→Heap→Prop}{d:DefRec}{K:Params→PySem.W.Frag} (hn:l.most=some 63) (SJ:d.params.defaults=[])
  (hY:∀ (w:World) (h:Heap),YP w h→(K w.params).In h)
  (F:∀ (w:World) (mg:Str→Option Value) (fa:Addr) (h:Heap),(K w.params).In h→h.Ns mainGlobals mg→mg d.name=some (.ref fa) →
   ∃ fd:FuncData,(∀ (s:Shared) (u:Value),BindsTo s fd ⟨[u],[]⟩ [("_law_script",u)])∧∀ base:Heap,(K w.params).In base→base.Ns mainGlobals mg→av l.prog w (K w.params) mg base bw 19 fa fd ["_law_script"] (Gf (K w.params))) :
  PySem.W.WalkO q loose XP YP l.row.toRowW d [] (fun f vs=>PySem.call f vs) :=
 L2.OT (n:=63) (k:=19) (x := "_law_script") (CX:=fun _=>bw) (sp:=fun w=>Gf (K w.params)) hn (by decide) SJ ⟨rfl,by decide,by decide⟩ hY F (fun _ _ a ns hl _ hS=>⟨a,ns,rfl,hS,hl,fun _=>rfl⟩) fun _ _ _ _ _ z=>z
end K12
def PySem.W.Fast.tw3694963655153653517:Nat:=0
def PySem.W.Fast.tw1330517763087462818:Nat:=0
def PySem.W.Fast.tw8098511780124091614:Nat:=0
def PySem.W.Fast.tw10633485465418825399:Nat:=0
def PySem.W.Fast.tw14954509748140670697:Nat:=0
def PySem.W.Fast.tw16194447677112658413:Nat:=0
def PySem.W.Fast.tw4956716034972409420:Nat:=0
def PySem.W.Fast.tw17782508666389293785:Nat:=0
def PySem.W.Fast.tw17588005776021449408:Nat:=0
def PySem.W.Fast.tw5287954666401877817:Nat:=0
def PySem.W.Fast.tw17939330075586420603:Nat:=0
def PySem.W.Fast.tw11380178196218203644:Nat:=0
def PySem.W.Fast.tw120678690527834827:Nat:=0
def PySem.W.Fast.tw16090234382220199261:Nat:=0
def PySem.W.Fast.tw4179430563972107386:Nat:=0
def PySem.W.Fast.tw10272694215092575320:Nat:=0
def PySem.W.Fast.tw8159779506346964553:Nat:=0
def PySem.W.Fast.tw14086679769220765231:Nat:=0
def PySem.W.Fast.tw3014713930132702525:Nat:=0
def PySem.W.Fast.tw8916081352451419135:Nat:=0
def PySem.W.Fast.tw9022598497301917207:Nat:=0
def PySem.W.Fast.tw16520612172676371574:Nat:=0
def PySem.W.Fast.tw9160827974549205612:Nat:=0
def PySem.W.Fast.tw8204237076808054729:Nat:=0
def PySem.W.Fast.tw9673219725525499209:Nat:=0
def PySem.W.Fast.tw3909916425574110858:Nat:=0
def PySem.W.Fast.tw16239144902018631698:Nat:=0
def PySem.W.Fast.tw4369922248335520025:Nat:=0
def PySem.W.Fast.tw947921611138318858:Nat:=0
def PySem.W.Fast.tw270023731333667732:Nat:=0
def PySem.W.Fast.tw10241408535047402292:Nat:=0
def PySem.W.Fast.tw7959829702738045019:Nat:=0
def PySem.W.Fast.tw10238245940750180002:Nat:=0
def PySem.W.Fast.tw10379755019660789587:Nat:=0
def PySem.W.Fast.tw16755689030645040441:Nat:=0
def PySem.W.Fast.tw549592648259107186:Nat:=0
def PySem.W.Fast.tw3068286679861371830:Nat:=0
def PySem.W.Fast.tw4696450772342675144:Nat:=0
def PySem.W.Fast.tw7769979937965792950:Nat:=0
def PySem.W.Fast.tw10420307481276443106:Nat:=0
def PySem.W.Fast.tw10160943623562632036:Nat:=0
def PySem.W.Fast.tw13121560175973696218:Nat:=0
def PySem.W.Fast.tw11879177426836305869:Nat:=0
def PySem.W.Fast.tw7294032298532175857:Nat:=0
def PySem.W.Fast.tw175874576644958418:Nat:=0
def PySem.W.Fast.tw8958713542553702118:Nat:=0
def PySem.W.Fast.tw14833145798711017088:Nat:=0
def PySem.W.Fast.tw5345185431217210348:Nat:=0
def PySem.W.Fast.tw16725551705660111303:Nat:=0
def PySem.W.Fast.tw3716884328027868299:Nat:=0
def PySem.W.Fast.tw10099022855649909818:Nat:=0
def PySem.W.Fast.tw15189879180907088455:Nat:=0
def PySem.W.Fast.tw18089418359979712687:Nat:=0
def PySem.W.Fast.tw12017183083294019605:Nat:=0
def PySem.W.Fast.tw7832578265041239739:Nat:=0
def PySem.W.Fast.tw8702666840626721276:Nat:=0
def PySem.W.Fast.tw16903845365172893378:Nat:=0
def PySem.W.Fast.tw931313606031687645:Nat:=0
def PySem.W.Fast.tw2432949832640268882:Nat:=0
def PySem.W.Fast.tw7171327366790484900:Nat:=0
def PySem.W.Fast.tw5783280716390600710:Nat:=0
def PySem.W.Fast.tw7563747608938227888:Nat:=0
def PySem.W.Fast.tw15475255664415058986:Nat:=0
def PySem.W.Fast.tw3058092822039385352:Nat:=0
def PySem.W.Fast.tw16444207103208833944:Nat:=0
def PySem.W.Fast.tw10079962232958862168:Nat:=0
def PySem.W.Fast.tw8180854681110371650:Nat:=0
def PySem.W.Fast.tw18046892142248732090:Nat:=0
def PySem.W.Fast.tw7573904088181753325:Nat:=0
def PySem.W.Fast.tw3478588225149929087:Nat:=0
def PySem.W.Fast.tw9166477895671973051:Nat:=0
def PySem.W.Fast.tw11253862184062705834:Nat:=0
def PySem.W.Fast.tw10940747416657750658:Nat:=0
def PySem.W.Fast.tw5539027161841856352:Nat:=0
def PySem.W.Fast.tw18033708113608289707:Nat:=0
def PySem.W.Fast.tw11922314460614016283:Nat:=0
def PySem.W.Fast.tw5820344633148138588:Nat:=0
def PySem.W.Fast.tw3346375396269168786:Nat:=0
def PySem.W.Fast.tw17671487756180732914:Nat:=0
def PySem.W.Fast.tw8018132338741287772:Nat:=0
def PySem.W.Fast.tw2132237918946743345:Nat:=0
def PySem.W.Fast.tw225266278790563434:Nat:=0
def PySem.W.Fast.tw2929163926536298387:Nat:=0
def PySem.W.Fast.tw15332092331308601883:Nat:=0
def PySem.W.Fast.tw7187344045155212347:Nat:=0
def PySem.W.Fast.tw342717145499044561:Nat:=0
def PySem.W.Fast.tw4780583843125957037:Nat:=0
def PySem.W.Fast.tw16470418148030128489:Nat:=0
def PySem.W.Fast.tw14371548958849449629:Nat:=0
def PySem.W.Fast.tw6133839373570714756:Nat:=0
def PySem.W.Fast.tw6359018749274066072:Nat:=0
def PySem.W.Fast.tw3215376679906137183:Nat:=0
def PySem.W.Fast.tw1913090829222445693:Nat:=0
def PySem.W.Fast.tw2457688061373353443:Nat:=0
def PySem.W.Fast.tw6017034814445314944:Nat:=0
def PySem.W.Fast.tw10987901304567128430:Nat:=0
def PySem.W.Fast.tw5187738889949005577:Nat:=0
def PySem.W.Fast.tw14429841527399621908:Nat:=0
def PySem.W.Fast.tw12706692277216729643:Nat:=0
def PySem.W.Fast.tw4826068704959634417:Nat:=0
def PySem.W.Fast.tw13490139551950967815:Nat:=0
def PySem.W.Fast.tw1752391443180358707:Nat:=0
def PySem.W.Fast.tw5886685239812441757:Nat:=0
def PySem.W.Fast.tw3064780867571416324:Nat:=0
def PySem.W.Fast.tw3104592506675020504:Nat:=0
def PySem.W.Fast.tw4455342223279921129:Nat:=0
def PySem.W.Fast.tw6359085446880242404:Nat:=0
def PySem.W.Fast.tw9412964964608384568:Nat:=0
def PySem.W.Fast.tw1808115424152250686:Nat:=0
def PySem.W.Fast.tw11437158868177274372:Nat:=0
def PySem.W.Fast.tw18138995192366435511:Nat:=0
def PySem.W.Fast.tw3735889062037255958:Nat:=0
def PySem.W.Fast.tw6477402588625604385:Nat:=0
def PySem.W.Fast.tw10243912213437221722:Nat:=0
def PySem.W.Fast.tw16372609417611025442:Nat:=0
def PySem.W.Fast.tw8057584395874625387:Nat:=0
def PySem.W.Fast.tw76761128718551072:Nat:=0
def PySem.W.Fast.tw526290594846206369:Nat:=0
def PySem.W.Fast.tw8427449386862142924:Nat:=0
def PySem.W.Fast.tw5227911335132656511:Nat:=0
def PySem.W.Fast.tw7119161895006397450:Nat:=0
def PySem.W.Fast.tw16879742426592800483:Nat:=0
def PySem.W.Fast.tw14898914547981649577:Nat:=0
def PySem.W.Fast.tw7130439698386435789:Nat:=0
def PySem.W.Fast.tw8314726733674084044:Nat:=0
def PySem.W.Fast.tw11908097347718347774:Nat:=0
def PySem.W.Fast.tw16699327484660309518:Nat:=0
def PySem.W.Fast.tw17153226746974565948:Nat:=0
def PySem.W.Fast.tw2445352596640071006:Nat:=0
def PySem.W.Fast.tw17553143841061815147:Nat:=0
def PySem.W.Fast.tw8159021612241505642:Nat:=0
def PySem.W.Fast.tw15264434228046421118:Nat:=0
def PySem.W.Fast.tw13821564374977918124:Nat:=0
def PySem.W.Fast.tw1600623989646245425:Nat:=0
def PySem.W.Fast.tw16088524001169570812:Nat:=0
def PySem.W.Fast.tw11689228321840085924:Nat:=0
def PySem.W.Fast.tw3529113996304262971:Nat:=0
def PySem.W.Fast.tw6404536062617308693:Nat:=0
def PySem.W.Fast.tw10103577981591917588:Nat:=0
def PySem.W.Fast.tw1240366018185128502:Nat:=0
def PySem.W.Fast.tw18292152555229295927:Nat:=0
def PySem.W.Fast.tw1482785668603073495:Nat:=0
def PySem.W.Fast.tw13770655182658026404:Nat:=0
def PySem.W.Fast.tw6642528996503477115:Nat:=0
def PySem.W.Fast.tw14244761870863495829:Nat:=0
def PySem.W.Fast.tw6811480448993747686:Nat:=0
def PySem.W.Fast.tw2054264590977870711:Nat:=0
def PySem.W.Fast.tw12125638668991851806:Nat:=0
def PySem.W.Fast.tw998548398402811190:Nat:=0
def PySem.W.Fast.tw15616368785215438688:Nat:=0
def PySem.W.Fast.tw8034087392536667788:Nat:=0
def PySem.W.Fast.tw1575042431339885684:Nat:=0
def PySem.W.Fast.tw18230830114115428542:Nat:=0
def PySem.W.Fast.tw17436907799002091809:Nat:=0
def PySem.W.Fast.tw17867541538537129163:Nat:=0
def PySem.W.Fast.tw17959619256111454743:Nat:=0
def PySem.W.Fast.tw18166193949737125307:Nat:=0
def PySem.W.Fast.tw6031020469032746631:Nat:=0
def PySem.W.Fast.tw8572474445988401445:Nat:=0
def PySem.W.Fast.tw9476256609839101055:Nat:=0
def PySem.W.Fast.tw11699360477296516085:Nat:=0
def PySem.W.Fast.tw14931786972344469540:Nat:=0
def PySem.W.Fast.tw12373839528225754107:Nat:=0
def PySem.W.Fast.tw1933402824222401612:Nat:=0
def PySem.W.Fast.tw8823382880296149175:Nat:=0
def PySem.W.Fast.tw16315808927368880426:Nat:=0
def PySem.W.Fast.tw496576173036868841:Nat:=0
def PySem.W.Fast.tw17544077709583379052:Nat:=0
def PySem.W.Fast.tw1527518102340573547:Nat:=0
def PySem.W.Fast.tw17190274180404188547:Nat:=0
def PySem.W.Fast.tw2149638257712636886:Nat:=0
def PySem.W.Fast.tw4651766001808880386:Nat:=0
def PySem.W.Fast.tw8517422274389550178:Nat:=0
def PySem.W.Fast.tw2814806659349036229:Nat:=0
def PySem.W.Fast.tw435166511005494991:Nat:=0
def PySem.W.Fast.tw5896267562400954362:Nat:=0
def PySem.W.Fast.tw16325385591506119391:Nat:=0
def PySem.W.Fast.tw17000414669458012217:Nat:=0
def PySem.W.Fast.tw12480928289641223546:Nat:=0
def PySem.W.Fast.tw15327632118327352066:Nat:=0
def PySem.W.Fast.tw896271025446999842:Nat:=0
def PySem.W.Fast.tw9416542594252663258:Nat:=0
def PySem.W.Fast.tw12183698884449726469:Nat:=0
def PySem.W.Fast.tw15180685838908272381:Nat:=0
def PySem.W.Fast.tw7839981334351197924:Nat:=0
def PySem.W.Fast.tw1737727842863340701:Nat:=0
def PySem.W.Fast.tw4884551979689143955:Nat:=0
def PySem.W.Fast.tw7809508115046113345:Nat:=0
def PySem.W.Fast.tw17432539107687884892:Nat:=0
def PySem.W.Fast.tw11003669636307009903:Nat:=0
def PySem.W.Fast.tw18362354870906632944:Nat:=0
def PySem.W.Fast.tw4025083315814432679:Nat:=0
def PySem.W.Fast.tw11335196348041009864:Nat:=0
def PySem.W.Fast.tw6154415496034785494:Nat:=0
def PySem.W.Fast.tw6932767263770978173:Nat:=0
def PySem.W.Fast.tw14454128207787986213:Nat:=0
def PySem.W.Fast.tw8633747914832192080:Nat:=0
def PySem.W.Fast.tw11109549973853051057:Nat:=0
def PySem.W.Fast.tw5216716213172986076:Nat:=0
def PySem.W.Fast.tw17906001220806083741:Nat:=0
def PySem.W.Fast.tw1824635163819706354:Nat:=0
def PySem.W.Fast.tw165381429545745110:Nat:=0
def PySem.W.Fast.tw12932359101713175569:Nat:=0
def PySem.W.Fast.tw12483607727928936773:Nat:=0
def PySem.W.Fast.tw5081986564997283236:Nat:=0
def PySem.W.Fast.tw5403869092056962279:Nat:=0
def PySem.W.Fast.tw8248126755486592559:Nat:=0
def PySem.W.Fast.tw16250395397628065952:Nat:=0
def PySem.W.Fast.tw17149190917265818836:Nat:=0
def PySem.W.Fast.tw17041509300422170507:Nat:=0
def PySem.W.Fast.tw6055452192570424464:Nat:=0
def PySem.W.Fast.tw55859028995045469:Nat:=0
def PySem.W.Fast.tw356749912511402793:Nat:=0
def PySem.W.Fast.tw15618656841484217934:Nat:=0
def PySem.W.Fast.tw4165516135881964476:Nat:=0
def PySem.W.Fast.tw3536844238285139388:Nat:=0
def PySem.W.Fast.tw14968534609424139016:Nat:=0
def PySem.W.Fast.tw9641101200988772342:Nat:=0
def PySem.W.Fast.tw10834201213941016114:Nat:=0
def PySem.W.Fast.tw4504113020755326261:Nat:=0
def PySem.W.Fast.tw6520808496251330517:Nat:=0
def PySem.W.Fast.tw15155294560725033364:Nat:=0
def PySem.W.Fast.tw9804568738326320379:Nat:=0
def PySem.W.Fast.tw3649772513592610352:Nat:=0
def PySem.W.Fast.tw6950240026796884918:Nat:=0
def PySem.W.Fast.tw11931070753014244511:Nat:=0
def PySem.W.Fast.tw15877836378520701406:Nat:=0
def PySem.W.Fast.tw13387726046212760535:Nat:=0
def PySem.W.Fast.tw9654481872448164622:Nat:=0
def PySem.W.Fast.tw4712411892108611882:Nat:=0
def PySem.W.Fast.tw16878653453108113293:Nat:=0
def PySem.W.Fast.tw5335160992233322842:Nat:=0
def PySem.W.Fast.tw4650048583505731324:Nat:=0
def PySem.W.Fast.tw7184249608612460596:Nat:=0
def PySem.W.Fast.tw2625602145212755495:Nat:=0
def PySem.W.Fast.tw14290198769346578322:Nat:=0
def PySem.W.Fast.tw1637361315109803720:Nat:=0
def PySem.W.Fast.tw13700709939373074176:Nat:=0
def PySem.W.Fast.tw14277430507143642448:Nat:=0
def PySem.W.Fast.tw8759292972692171726:Nat:=0
def PySem.W.Fast.tw1520721564331019325:Nat:=0
def PySem.W.Fast.tw16127676702719509923:Nat:=0
def PySem.W.Fast.tw8772661759715613322:Nat:=0
def PySem.W.Fast.tw10887799013176693029:Nat:=0
def PySem.W.Fast.tw4737243310168222122:Nat:=0
def PySem.W.Fast.tw17302490873982543421:Nat:=0
def PySem.W.Fast.tw17723163369461462725:Nat:=0
def PySem.W.Fast.tw11263138664244466437:Nat:=0
def PySem.W.Fast.tw13544998247833410879:Nat:=0
def PySem.W.Fast.tw6551113858170141330:Nat:=0
def PySem.W.Fast.tw8776783222094626998:Nat:=0
def PySem.W.Fast.tw3514452765876511672:Nat:=0
def PySem.W.Fast.tw9670061573056473890:Nat:=0
def PySem.W.Fast.tw1517179883757931627:Nat:=0
def PySem.W.Fast.tw17818458171064925888:Nat:=0
def PySem.W.Fast.tw17463878801461197625:Nat:=0
def PySem.W.Fast.tw13097026634786509792:Nat:=0
def PySem.W.Fast.tw7016082530370838209:Nat:=0
def PySem.W.Fast.tw12604731964023300613:Nat:=0
def PySem.W.Fast.tw6390666163178721881:Nat:=0
def PySem.W.Fast.tw2484020415156969824:Nat:=0
def PySem.W.Fast.tw12028728368813566794:Nat:=0
def PySem.W.Fast.tw5210403175185374711:Nat:=0
def PySem.W.Fast.tw180593459865933776:Nat:=0
def PySem.W.Fast.tw3927432022251346087:Nat:=0
def PySem.W.Fast.tw12542385735845117675:Nat:=0
def PySem.W.Fast.tw14794070650431963358:Nat:=0
def PySem.W.Fast.tw4379490183391784500:Nat:=0
def PySem.W.Fast.tw9322871947733832883:Nat:=0
def PySem.W.Fast.tw8351860099768543551:Nat:=0
def PySem.W.Fast.tw4595625212451230626:Nat:=0
def PySem.W.Fast.tw5828549019415446421:Nat:=0
def PySem.W.Fast.tw14263369489975866931:Nat:=0
def PySem.W.Fast.tw5388667175058879069:Nat:=0
def PySem.W.Fast.tw8424786462440861255:Nat:=0
def PySem.W.Fast.tw15164222423825361914:Nat:=0
def PySem.W.Fast.tw16414042340651574050:Nat:=0
def PySem.W.Fast.tw17156176334786138924:Nat:=0
def PySem.W.Fast.tw14805310246770862435:Nat:=0
def PySem.W.Fast.tw15104104067042001361:Nat:=0
def PySem.W.Fast.tw2744453200885091033:Nat:=0
def PySem.W.Fast.tw2873621648497638491:Nat:=0
def PySem.W.Fast.tw16145405407559754774:Nat:=0
def PySem.W.Fast.tw15916593173969221961:Nat:=0
def PySem.W.Fast.tw13272385490562112130:Nat:=0
def PySem.W.Fast.tw12942515282260024817:Nat:=0
def PySem.W.Fast.tw6453603958312137136:Nat:=0
def PySem.W.Fast.tw11292688813610325670:Nat:=0
def PySem.W.Fast.tw9807418293813980297:Nat:=0
def PySem.W.Fast.tw5194213417859360883:Nat:=0
def PySem.W.Fast.tw10064869030711583880:Nat:=0
def PySem.W.Fast.tw11556964396379023266:Nat:=0
def PySem.W.Fast.tw2840696456693918862:Nat:=0
def PySem.W.Fast.tw16840298667266841553:Nat:=0
def PySem.W.Fast.tw5724525237271715268:Nat:=0
def PySem.W.Fast.tw17454283798370158164:Nat:=0
def PySem.W.Fast.tw4033096251221632555:Nat:=0
def PySem.W.Fast.tw12374557444225685369:Nat:=0
def PySem.W.Fast.tw373558265750931178:Nat:=0
def PySem.W.Fast.tw17400162579102075017:Nat:=0
def PySem.W.Fast.tw12063938132465236978:Nat:=0
def PySem.W.Fast.tw3338344855547353002:Nat:=0
def PySem.W.Fast.tw5408945926391771224:Nat:=0
def PySem.W.Fast.tw14547061723952229588:Nat:=0
def PySem.W.Fast.tw15587255922178277499:Nat:=0
def PySem.W.Fast.tw7127370350350401814:Nat:=0
def PySem.W.Fast.tw4662583437286162022:Nat:=0
def PySem.W.Fast.tw1488234806001573523:Nat:=0
def PySem.W.Fast.tw9128740701667248188:Nat:=0
def PySem.W.Fast.tw16768066526027574648:Nat:=0
def PySem.W.Fast.tw3056507662805387351:Nat:=0
def PySem.W.Fast.tw5834963615101270775:Nat:=0
def PySem.W.Fast.tw7281373942171126468:Nat:=0
def PySem.W.Fast.tw11230025335300370882:Nat:=0
def PySem.W.Fast.tw7435943933605396025:Nat:=0
def PySem.W.Fast.tw1275085636007170630:Nat:=0
def PySem.W.Fast.tw16473563074835429681:Nat:=0
def PySem.W.Fast.tw8403887175183224602:Nat:=0
def PySem.W.Fast.tw1095341791300019384:Nat:=0
def PySem.W.Fast.tw13381698699264623325:Nat:=0
def PySem.W.Fast.tw843419249754158604:Nat:=0
def PySem.W.Fast.tw16729076222005790266:Nat:=0
def PySem.W.Fast.tw1053833571119221727:Nat:=0
def PySem.W.Fast.tw12712519969449105036:Nat:=0
def PySem.W.Fast.tw12872260273231111289:Nat:=0
def PySem.W.Fast.tw6173036980774718098:Nat:=0
def PySem.W.Fast.tw17908626156576915490:Nat:=0
def PySem.W.Fast.tw172262490221870813:Nat:=0
def PySem.W.Fast.tw15111507563021737871:Nat:=0
def PySem.W.Fast.tw7985010017493832752:Nat:=0
def PySem.W.Fast.tw15956539987439387738:Nat:=0
def PySem.W.Fast.tw17758726824712663096:Nat:=0
def PySem.W.Fast.tw10916736639695883327:Nat:=0
def PySem.W.Fast.tw7115300089025572812:Nat:=0
def PySem.W.Fast.tw9116081679049084456:Nat:=0
def PySem.W.Fast.tw17215379340097746636:Nat:=0
def PySem.W.Fast.tw1987610247422237762:Nat:=0
def PySem.W.Fast.tw13447036975100736698:Nat:=0
def PySem.W.Fast.tw4902402265292975565:Nat:=0
def PySem.W.Fast.tw13101152210789692385:Nat:=0
def PySem.W.Fast.tw14275121523266934845:Nat:=0
def PySem.W.Fast.tw14518802123104437719:Nat:=0
def PySem.W.Fast.tw11045106084850229919:Nat:=0
def PySem.W.Fast.tw9846403467307908047:Nat:=0
def PySem.W.Fast.tw11593769672505163710:Nat:=0
def PySem.W.Fast.tw9779550475147239106:Nat:=0
def PySem.W.Fast.tw17012497986003518902:Nat:=0
def PySem.W.Fast.tw15468482635684409044:Nat:=0
def PySem.W.Fast.tw13711722685375149107:Nat:=0
def PySem.W.Fast.tw17296656707248170330:Nat:=0
def PySem.W.Fast.tw10408840794888755581:Nat:=0
def PySem.W.Fast.tw9069249091851099506:Nat:=0
def PySem.W.Fast.tw6328538955023204261:Nat:=0
def PySem.W.Fast.tw5192939276590326963:Nat:=0
def PySem.W.Fast.tw5058566187810851362:Nat:=0
def PySem.W.Fast.tw15251532515314761976:Nat:=0
def PySem.W.Fast.tw4534329046163345570:Nat:=0
def PySem.W.Fast.tw9960030063420433832:Nat:=0
def PySem.W.Fast.tw10663612037794405481:Nat:=0
def PySem.W.Fast.tw14222587474610526729:Nat:=0
def PySem.W.Fast.tw1979405311399442487:Nat:=0
def PySem.W.Fast.tw7516240472523680341:Nat:=0
def PySem.W.Fast.tw3561942698910173035:Nat:=0
def PySem.W.Fast.tw5984896433239249:Nat:=0
def PySem.W.Fast.tw8161040864095886262:Nat:=0
def PySem.W.Fast.tw16790221425467503173:Nat:=0
def PySem.W.Fast.tw6436840133973026854:Nat:=0
def PySem.W.Fast.tw1516355442406173319:Nat:=0
def PySem.W.Fast.tw17340423286063825425:Nat:=0
def PySem.W.Fast.tw3438398058059930994:Nat:=0
def PySem.W.Fast.tw17096030663161535114:Nat:=0
def PySem.W.Fast.tw1689667636180940726:Nat:=0
def PySem.W.Fast.tw1195474402796070996:Nat:=0
def PySem.W.Fast.tw14268860362819637532:Nat:=0
def PySem.W.Fast.tw6062731114078691639:Nat:=0
def PySem.W.Fast.tw15732475283192278256:Nat:=0
def PySem.W.Fast.tw5180369738559245674:Nat:=0
def PySem.W.Fast.tw3351655847198458078:Nat:=0
def PySem.W.Fast.tw9384900022756728780:Nat:=0
def PySem.W.Fast.tw15126123977746634172:Nat:=0
def PySem.W.Fast.tw3827500621811095883:Nat:=0
def PySem.W.Fast.tw5045174585410374341:Nat:=0
def PySem.W.Fast.tw5792151655951692326:Nat:=0
def PySem.W.Fast.tw3537973774792363827:Nat:=0
def PySem.W.Fast.tw13278252964346763463:Nat:=0
def PySem.W.Fast.tw16899265487250418040:Nat:=0
def PySem.W.Fast.tw11669923782421076675:Nat:=0
def PySem.W.Fast.tw11550699547061420842:Nat:=0
def PySem.W.Fast.tw1798179513428362720:Nat:=0
def PySem.W.Fast.tw11652681273861222023:Nat:=0
def PySem.W.Fast.tw925736112161268981:Nat:=0
def PySem.W.Fast.tw9320128803905603926:Nat:=0
def PySem.W.Fast.tw4640330894996582292:Nat:=0
def PySem.W.Fast.tw10242373746170078646:Nat:=0
def PySem.W.Fast.tw13606683423465850696:Nat:=0
def PySem.W.Fast.tw8000154868778877342:Nat:=0
def PySem.W.Fast.tw2830523280860585248:Nat:=0
def PySem.W.Fast.tw12205162377630907965:Nat:=0
def PySem.W.Fast.tw17253357079507930693:Nat:=0
def PySem.W.Fast.tw12158085753049602496:Nat:=0
def PySem.W.Fast.tw18183649633530225576:Nat:=0
def PySem.W.Fast.tw6122623065089571268:Nat:=0
def PySem.W.Fast.tw16114235756083453269:Nat:=0
def PySem.W.Fast.tw7661999240813294483:Nat:=0
def PySem.W.Fast.tw11089599317801236235:Nat:=0
def PySem.W.Fast.tw16171931432018797279:Nat:=0
def PySem.W.Fast.tw9267391085325664289:Nat:=0
def PySem.W.Fast.tw11044440738426613302:Nat:=0
def PySem.W.Fast.tw7386092620877117886:Nat:=0
def PySem.W.Fast.tw4276788546216303158:Nat:=0
def PySem.W.Fast.tw7101991466602214498:Nat:=0
def PySem.W.Fast.tw14145662327150117632:Nat:=0
def PySem.W.Fast.tw3789042476595361611:Nat:=0
def PySem.W.Fast.tw9486862483327592445:Nat:=0
def PySem.W.Fast.tw9451742083069325737:Nat:=0
def PySem.W.Fast.tw16717968860191492143:Nat:=0
def PySem.W.Fast.tw10987140080770590246:Nat:=0
def PySem.W.Fast.tw14963396400742132887:Nat:=0
def PySem.W.Fast.tw15574536524691198106:Nat:=0
def PySem.W.Fast.tw14028373752907042882:Nat:=0
def PySem.W.Fast.tw14075205943247954812:Nat:=0
def PySem.W.Fast.tw3842491729480500540:Nat:=0
def PySem.W.Fast.tw1878218560586441807:Nat:=0
def PySem.W.Fast.tw10884415636339659655:Nat:=0
def PySem.W.Fast.tw15134508182478945684:Nat:=0
def PySem.W.Fast.tw99477689860285885:Nat:=0
def PySem.W.Fast.tw17740858529649126200:Nat:=0
def PySem.W.Fast.tw1377552089915683713:Nat:=0
def PySem.W.Fast.tw12739375841559324537:Nat:=0
def PySem.W.Fast.tw5307895228888998730:Nat:=0
def PySem.W.Fast.tw10654539002307247802:Nat:=0
def PySem.W.Fast.tw797161900460669991:Nat:=0
def PySem.W.Fast.tw10620056210888833292:Nat:=0
def PySem.W.Fast.tw247273950472587011:Nat:=0
def PySem.W.Fast.tw4978198457267699347:Nat:=0
def PySem.W.Fast.tw12460819384983938926:Nat:=0
def PySem.W.Fast.tw13631108210191238417:Nat:=0
def PySem.W.Fast.tw8720204893788674336:Nat:=0
def PySem.W.Fast.tw17113032483949079014:Nat:=0
def PySem.W.Fast.tw1980388000404168375:Nat:=0
def PySem.W.Fast.tw2351208089573974149:Nat:=0
def PySem.W.Fast.tw14323124869400865321:Nat:=0
def PySem.W.Fast.tw4743032329237287596:Nat:=0
def PySem.W.Fast.tw15054388826495265250:Nat:=0
def PySem.W.Fast.tw13000596890702438667:Nat:=0
def PySem.W.Fast.tw14512724587347506153:Nat:=0
def PySem.W.Fast.tw722957927482247501:Nat:=0
def PySem.W.Fast.tw15165752143151737633:Nat:=0
def PySem.W.Fast.tw17147400264917532503:Nat:=0
def PySem.W.Fast.tw15834054788642128677:Nat:=0
def PySem.W.Fast.tw17816736279270826947:Nat:=0
def PySem.W.Fast.tw2293740168643089418:Nat:=0
def PySem.W.Fast.tw760120262554067905:Nat:=0
def PySem.W.Fast.tw18397475378484577473:Nat:=0
def PySem.W.Fast.tw15100508815512210199:Nat:=0
def PySem.W.Fast.tw406536039143418801:Nat:=0
def PySem.W.Fast.tw15256377110804689259:Nat:=0
def PySem.W.Fast.tw7148224081477303508:Nat:=0
def PySem.W.Fast.tw213641406356751064:Nat:=0
def PySem.W.Fast.tw2002375300349422921:Nat:=0
def PySem.W.Fast.tw14416325327078623779:Nat:=0
def PySem.W.Fast.tw7036959227931652165:Nat:=0
def PySem.W.Fast.tw16378314570410142360:Nat:=0
def PySem.W.Fast.tw14877176273295938830:Nat:=0
def PySem.W.Fast.tw7337038966113827313:Nat:=0
def PySem.W.Fast.tw2596456748298275298:Nat:=0
def PySem.W.Fast.tw17297363495968487403:Nat:=0
def PySem.W.Fast.tw4710643611168975200:Nat:=0
def PySem.W.Fast.tw11331471001097602850:Nat:=0
def PySem.W.Fast.tw10809425905662176590:Nat:=0
def PySem.W.Fast.tw8244091415771639766:Nat:=0
def PySem.W.Fast.tw9581798012878729769:Nat:=0
def PySem.W.Fast.tw10783520444972030924:Nat:=0
def PySem.W.Fast.tw15265477878646877135:Nat:=0
def PySem.W.Fast.tw17721705096688453578:Nat:=0
def PySem.W.Fast.tw3776683044213579612:Nat:=0
def PySem.W.Fast.tw9429164517855199808:Nat:=0
def PySem.W.Fast.tw13657763262034899304:Nat:=0
def PySem.W.Fast.tw16517775906224212243:Nat:=0
def PySem.W.Fast.tw9267366212909386706:Nat:=0
def PySem.W.Fast.tw15018743048849856217:Nat:=0
def PySem.W.Fast.tw2952432164222483750:Nat:=0
def PySem.W.Fast.tw14615596338654901095:Nat:=0
def PySem.W.Fast.tw2344300711497197848:Nat:=0
def PySem.W.Fast.tw5062334519350436491:Nat:=0
def PySem.W.Fast.tw3366671530902800289:Nat:=0
def PySem.W.Fast.tw8898062205965633605:Nat:=0
def PySem.W.Fast.tw7702822902253368819:Nat:=0
def PySem.W.Fast.tw10517194783162723797:Nat:=0
def PySem.W.Fast.tw12570474004520641868:Nat:=0
def PySem.W.Fast.tw15652596586453169178:Nat:=0
def PySem.W.Fast.tw9617641499405391716:Nat:=0
def PySem.W.Fast.tw17174166570374904814:Nat:=0
def PySem.W.Fast.tw8675023946965636708:Nat:=0
def PySem.W.Fast.tw3403806462462677235:Nat:=0
def PySem.W.Fast.tw12795516734591077685:Nat:=0
def PySem.W.Fast.tw10684248966589318023:Nat:=0
def PySem.W.Fast.tw128297328897170479:Nat:=0
def PySem.W.Fast.tw15562535383577770124:Nat:=0
def PySem.W.Fast.tw10939006818063145283:Nat:=0
def PySem.W.Fast.tw12197021866455965927:Nat:=0
def PySem.W.Fast.tw1868769909832065373:Nat:=0
def PySem.W.Fast.tw17022912408802982853:Nat:=0
def PySem.W.Fast.tw18184371116926278048:Nat:=0
def PySem.W.Fast.tw5923178735910735397:Nat:=0
def PySem.W.Fast.tw665832783186965966:Nat:=0
def PySem.W.Fast.tw1854991278254072970:Nat:=0
def PySem.W.Fast.tw3097015831330830179:Nat:=0
def PySem.W.Fast.tw573320549197242904:Nat:=0
def PySem.W.Fast.tw6514352528904049471:Nat:=0
def PySem.W.Fast.tw12421108314712396507:Nat:=0
def PySem.W.Fast.tw17521309666692478231:Nat:=0
def PySem.W.Fast.tw3913370259509675051:Nat:=0
def PySem.W.Fast.tw13699060144813086125:Nat:=0
def PySem.W.Fast.tw7035840608153987097:Nat:=0
def PySem.W.Fast.tw566620443746656104:Nat:=0
def PySem.W.Fast.tw7285021001797520804:Nat:=0
def PySem.W.Fast.tw9010630043700803156:Nat:=0
def PySem.W.Fast.tw15834631648801397888:Nat:=0
def PySem.W.Fast.tw6062269039358303724:Nat:=0
def PySem.W.Fast.tw12304405984217053537:Nat:=0
def PySem.W.Fast.tw9041902390990277045:Nat:=0
def PySem.W.Fast.tw14678882939149402666:Nat:=0
def PySem.W.Fast.tw14312067726734672484:Nat:=0
def PySem.W.Fast.tw3503876946088029308:Nat:=0
def PySem.W.Fast.tw4639684111763016887:Nat:=0
def PySem.W.Fast.tw2386912514836618408:Nat:=0
def PySem.W.Fast.tw247814941845930807:Nat:=0
def PySem.W.Fast.tw16232232196478518217:Nat:=0
def PySem.W.Fast.tw17434123323719388917:Nat:=0
def PySem.W.Fast.tw4124067427391332720:Nat:=0
def PySem.W.Fast.tw12503146398569553063:Nat:=0
def PySem.W.Fast.tw4241100944165146909:Nat:=0
def PySem.W.Fast.tw12045987648583944831:Nat:=0
def PySem.W.Fast.tw2382410015183983255:Nat:=0
def PySem.W.Fast.tw11133708464939756125:Nat:=0
def PySem.W.Fast.tw13659844740753310587:Nat:=0
def PySem.W.Fast.tw3881165151644875134:Nat:=0
def PySem.W.Fast.tw11250413093926087132:Nat:=0
def PySem.W.Fast.tw2808173588800812240:Nat:=0
def PySem.W.Fast.tw12764441439408694273:Nat:=0
def PySem.W.Fast.tw8743192828581596532:Nat:=0
def PySem.W.Fast.tw16218903923450501061:Nat:=0
def PySem.W.Fast.tw6789317828781001058:Nat:=0
def PySem.W.Fast.tw2257301023452993058:Nat:=0
def PySem.W.Fast.tw4544059953663591687:Nat:=0
def PySem.W.Fast.tw5405723361067588839:Nat:=0
def PySem.W.Fast.tw7807466057848455344:Nat:=0
def PySem.W.Fast.tw15469544508749702833:Nat:=0
def PySem.W.Fast.tw4238627298021531818:Nat:=0
def PySem.W.Fast.tw15496886785052581929:Nat:=0
def PySem.W.Fast.tw6250861621485492483:Nat:=0
def PySem.W.Fast.tw15007079549452970504:Nat:=0
def PySem.W.Fast.tw4660147217110793056:Nat:=0
def PySem.W.Fast.tw4621724531022707103:Nat:=0
def PySem.W.Fast.tw10035574656598085943:Nat:=0
def PySem.W.Fast.tw14168621834847334279:Nat:=0
def PySem.W.Fast.tw12177625844354880343:Nat:=0
def PySem.W.Fast.tw12009563664449570046:Nat:=0
def PySem.W.Fast.tw13701641584638572937:Nat:=0
def PySem.W.Fast.tw10766967034210063601:Nat:=0
def PySem.W.Fast.tw13339693078563605073:Nat:=0
def PySem.W.Fast.tw230827887921777826:Nat:=0
def PySem.W.Fast.tw14084429164725286453:Nat:=0
def PySem.W.Fast.tw6895085871843568135:Nat:=0
def PySem.W.Fast.tw5618431685492191062:Nat:=0
def PySem.W.Fast.tw11707309117166359444:Nat:=0
def PySem.W.Fast.tw754957031574463296:Nat:=0
def PySem.W.Fast.tw9208894079725907714:Nat:=0
def PySem.W.Fast.tw1374386286696877784:Nat:=0
def PySem.W.Fast.tw1660786527906400192:Nat:=0
def PySem.W.Fast.tw6796322431841430871:Nat:=0
def PySem.W.Fast.tw2206055118585593849:Nat:=0
def PySem.W.Fast.tw14702385282563564679:Nat:=0
def PySem.W.Fast.tw876461081492999271:Nat:=0
def PySem.W.Fast.tw2832871125967730362:Nat:=0
def PySem.W.Fast.tw15576035270939641744:Nat:=0
def PySem.W.Fast.tw9062767995535225995:Nat:=0
def PySem.W.Fast.tw14168093787834877915:Nat:=0
def PySem.W.Fast.tw1685348059563719223:Nat:=0
def PySem.W.Fast.tw15235131814724122453:Nat:=0
def PySem.W.Fast.tw217050340302058752:Nat:=0
def PySem.W.Fast.tw5677091346665198383:Nat:=0
def PySem.W.Fast.tw14307599014790628261:Nat:=0
def PySem.W.Fast.tw7014958509737357451:Nat:=0
def PySem.W.Fast.tw9584561197587875025:Nat:=0
def PySem.W.Fast.tw17854447742059825652:Nat:=0
def PySem.W.Fast.tw14853969206039795570:Nat:=0
def PySem.W.Fast.tw3513912920724064431:Nat:=0
def PySem.W.Fast.tw5777371682048969287:Nat:=0
def PySem.W.Fast.tw1960205241960750414:Nat:=0
def PySem.W.Fast.tw17237902490705386500:Nat:=0
def PySem.W.Fast.tw10690242742121698113:Nat:=0
def PySem.W.Fast.tw6900526493328861378:Nat:=0
def PySem.W.Fast.tw8870121574366025008:Nat:=0
def PySem.W.Fast.tw3447331501132872845:Nat:=0
def PySem.W.Fast.tw4433778238414802897:Nat:=0
def PySem.W.Fast.tw1609173551165972457:Nat:=0
def PySem.W.Fast.tw4678800629146488807:Nat:=0
def PySem.W.Fast.tw9067167151603777551:Nat:=0
def PySem.W.Fast.tw9718120869317711228:Nat:=0
def PySem.W.Fast.tw15390081521686956907:Nat:=0
def PySem.W.Fast.tw16772137877756869940:Nat:=0
def PySem.W.Fast.tw9681406092746198748:Nat:=0
def PySem.W.Fast.tw11297910178900792806:Nat:=0
def PySem.W.Fast.tw12805347678237355408:Nat:=0
def PySem.W.Fast.tw8055701773563443771:Nat:=0
def PySem.W.Fast.tw11908703014925654274:Nat:=0
def PySem.W.Fast.tw6316464740486609132:Nat:=0
def PySem.W.Fast.tw10113749859104000471:Nat:=0
def PySem.W.Fast.tw17065135672957980710:Nat:=0
def PySem.W.Fast.tw7188178724485523174:Nat:=0
def PySem.W.Fast.tw7041595927726827489:Nat:=0
def PySem.W.Fast.tw311776531762590467:Nat:=0
def PySem.W.Fast.tw18183433861515744789:Nat:=0
def PySem.W.Fast.tw17378664783271444562:Nat:=0
def PySem.W.Fast.tw12662491730798078449:Nat:=0
def PySem.W.Fast.tw4681339645619551032:Nat:=0
def PySem.W.Fast.tw13776802598198085861:Nat:=0
def PySem.W.Fast.tw982367913961955820:Nat:=0
def PySem.W.Fast.tw7253623524649178048:Nat:=0
def PySem.W.Fast.tw4342855465709272328:Nat:=0
def PySem.W.Fast.tw16392461047999220766:Nat:=0
def PySem.W.Fast.tw9195936329212589710:Nat:=0
def PySem.W.Fast.tw8794200975790844690:Nat:=0
def PySem.W.Fast.tw5871781446858735333:Nat:=0
def PySem.W.Fast.tw9185066493273081804:Nat:=0
def PySem.W.Fast.tw12047153818936079266:Nat:=0
def PySem.W.Fast.tw14865297583218598112:Nat:=0
def PySem.W.Fast.tw18329060105503635603:Nat:=0
def PySem.W.Fast.tw8734332471378324268:Nat:=0
def PySem.W.Fast.tw6079175819894624537:Nat:=0
def PySem.W.Fast.tw16434323446687691512:Nat:=0
def PySem.W.Fast.tw12521439458828862492:Nat:=0
def PySem.W.Fast.tw5470772047789199319:Nat:=0
def PySem.W.Fast.tw8393295427075407666:Nat:=0
def PySem.W.Fast.tw2523292406048056600:Nat:=0
def PySem.W.Fast.tw4957191738043431651:Nat:=0
def PySem.W.Fast.tw4119488508864193344:Nat:=0
def PySem.W.Fast.tw1016357450219472982:Nat:=0
def PySem.W.Fast.tw16471950199021723106:Nat:=0
def PySem.W.Fast.tw11921640184245752036:Nat:=0
def PySem.W.Fast.tw4330931936309776973:Nat:=0
def PySem.W.Fast.tw3663056095974493571:Nat:=0
def PySem.W.Fast.tw3607203081203539376:Nat:=0
def PySem.W.Fast.tw6570496162483190741:Nat:=0
def PySem.W.Fast.tw10654163391869094773:Nat:=0
def PySem.W.Fast.tw3236473700748292248:Nat:=0
def PySem.W.Fast.tw13468072917634982222:Nat:=0
def PySem.W.Fast.tw16255379128052208265:Nat:=0
def PySem.W.Fast.tw4058815255314450023:Nat:=0
def PySem.W.Fast.tw325670488240980252:Nat:=0
def PySem.W.Fast.tw12594134549778509937:Nat:=0
def PySem.W.Fast.tw15131339137258038201:Nat:=0
def PySem.W.Fast.tw1120854134434636966:Nat:=0
def PySem.W.Fast.tw13229787433999699400:Nat:=0
def PySem.W.Fast.tw3243764649923090824:Nat:=0
def PySem.W.Fast.tw16849320640298914025:Nat:=0
def PySem.W.Fast.tw4943244195263809477:Nat:=0
def PySem.W.Fast.tw10782178360812091709:Nat:=0
def PySem.W.Fast.tw7954128668712444551:Nat:=0
def PySem.W.Fast.tw16272335781714508003:Nat:=0
def PySem.W.Fast.tw5970153930572781886:Nat:=0
def PySem.W.Fast.tw14891664048082115628:Nat:=0
def PySem.W.Fast.tw6995946074834323857:Nat:=0
def PySem.W.Fast.tw380511743516624747:Nat:=0
def PySem.W.Fast.tw10369219993470607566:Nat:=0
def PySem.W.Fast.tw16841148114012393023:Nat:=0
def PySem.W.Fast.tw9732581285996452285:Nat:=0
def PySem.W.Fast.tw8625303543628762069:Nat:=0
def PySem.W.Fast.tw6400006124996298333:Nat:=0
def PySem.W.Fast.tw11630688401531240311:Nat:=0
def PySem.W.Fast.tw16912320770552472142:Nat:=0
def PySem.W.Fast.tw971239109983585050:Nat:=0
def PySem.W.Fast.tw7222906533331322580:Nat:=0
def PySem.W.Fast.tw16376105745475056280:Nat:=0
def PySem.W.Fast.tw6920750939689471717:Nat:=0
def PySem.W.Fast.tw11240743941261493202:Nat:=0
def PySem.W.Fast.tw4126636155200603821:Nat:=0
def PySem.W.Fast.tw10865176001542203705:Nat:=0
def PySem.W.Fast.tw2519214338089677324:Nat:=0
def PySem.W.Fast.tw10500722064624359614:Nat:=0
def PySem.W.Fast.tw2454789752498370030:Nat:=0
def PySem.W.Fast.tw15949974818893463997:Nat:=0
def PySem.W.Fast.tw16811221519771617453:Nat:=0
def PySem.W.Fast.tw12697976113342499567:Nat:=0
def PySem.W.Fast.tw11168845861954883226:Nat:=0
def PySem.W.Fast.tw17728085866054499965:Nat:=0
def PySem.W.Fast.tw530783427407681816:Nat:=0
def PySem.W.Fast.tw8106060863203174844:Nat:=0
def PySem.W.Fast.tw18297098821572828662:Nat:=0
def PySem.W.Fast.tw8689037976633303246:Nat:=0
def PySem.W.Fast.tw7565065587155416612:Nat:=0
def PySem.W.Fast.tw1409891728140898996:Nat:=0
def PySem.W.Fast.tw17718718982967544548:Nat:=0
def PySem.W.Fast.tw1348118763690198014:Nat:=0
def PySem.W.Fast.tw15808801885043154607:Nat:=0
def PySem.W.Fast.tw4681322512025315754:Nat:=0
def PySem.W.Fast.tw13138022079605688792:Nat:=0
def PySem.W.Fast.tw216153304427591386:Nat:=0
def PySem.W.Fast.tw4191707970490122933:Nat:=0
def PySem.W.Fast.tw11990907420074099223:Nat:=0
def PySem.W.Fast.tw12255983051928754938:Nat:=0
def PySem.W.Fast.tw12235972832399934675:Nat:=0
def PySem.W.Fast.tw15887050135052118062:Nat:=0
def PySem.W.Fast.tw14428427201316903672:Nat:=0
def PySem.W.Fast.tw8154304364134849650:Nat:=0
def PySem.W.Fast.tw6719419836099869380:Nat:=0
def PySem.W.Fast.tw9465419295920789394:Nat:=0
def PySem.W.Fast.tw14172829852484933908:Nat:=0
def PySem.W.Fast.tw10238307176726574604:Nat:=0
def PySem.W.Fast.tw14275692957641013275:Nat:=0
def PySem.W.Fast.tw6433123454850395159:Nat:=0
def PySem.W.Fast.tw16414066279996434338:Nat:=0
def PySem.W.Fast.tw4014045503235644156:Nat:=0
def PySem.W.Fast.tw14589027731228157509:Nat:=0
def PySem.W.Fast.tw3949224246459404847:Nat:=0
def PySem.W.Fast.tw16942283467028896693:Nat:=0
def PySem.W.Fast.tw1311518450278281634:Nat:=0
def PySem.W.Fast.tw10988091604770090647:Nat:=0
def PySem.W.Fast.tw16190352683787635242:Nat:=0
def PySem.W.Fast.tw16418533426272898376:Nat:=0
def PySem.W.Fast.tw15189214106741571681:Nat:=0
def PySem.W.Fast.tw12198496896921453216:Nat:=0
def PySem.W.Fast.tw7235224857655439387:Nat:=0
def PySem.W.Fast.tw1510869212481652676:Nat:=0
def PySem.W.Fast.tw228661086983158254:Nat:=0
def PySem.W.Fast.tw17802075027921950049:Nat:=0
def PySem.W.Fast.tw18078790894610058354:Nat:=0
def PySem.W.Fast.tw9367720269987496655:Nat:=0
def PySem.W.Fast.tw18139790765750422411:Nat:=0
def PySem.W.Fast.tw580349944396819316:Nat:=0
def PySem.W.Fast.tw5058555754532021650:Nat:=0
def PySem.W.Fast.tw10746915903051471979:Nat:=0
def PySem.W.Fast.tw7867739623132563131:Nat:=0
def PySem.W.Fast.tw13313915339002850896:Nat:=0
def PySem.W.Fast.tw9327396918405045704:Nat:=0
def PySem.W.Fast.tw6791778682563131090:Nat:=0
def PySem.W.Fast.tw17123592450290387376:Nat:=0
def PySem.W.Fast.tw15558782625816572523:Nat:=0
def PySem.W.Fast.tw8070357421467468649:Nat:=0
def PySem.W.Fast.tw12186492891174565531:Nat:=0
def PySem.W.Fast.tw15403652645944288828:Nat:=0
def PySem.W.Fast.tw12678332761843264811:Nat:=0
def PySem.W.Fast.tw14284655501777803955:Nat:=0
def PySem.W.Fast.tw10399286660409434344:Nat:=0
def PySem.W.Fast.tw18277653640038477363:Nat:=0
def PySem.W.Fast.tw11438008525301425753:Nat:=0
def PySem.W.Fast.tw5509755748476368285:Nat:=0
def PySem.W.Fast.tw7395955112975583733:Nat:=0
def PySem.W.Fast.tw4554818654525384291:Nat:=0
def PySem.W.Fast.tw4873772534522681521:Nat:=0
def PySem.W.Fast.tw2017185819853438544:Nat:=0
def PySem.W.Fast.tw17172784629556550139:Nat:=0
def PySem.W.Fast.tw7264088992097336828:Nat:=0
def PySem.W.Fast.tw13704438318168979075:Nat:=0
def PySem.W.Fast.tw13865980402503398359:Nat:=0
def PySem.W.Fast.tw6102261908244727485:Nat:=0
def PySem.W.Fast.tw11744959823077846397:Nat:=0
def PySem.W.Fast.tw8218320009139554882:Nat:=0
def PySem.W.Fast.tw2884142820039941398:Nat:=0
def PySem.W.Fast.tw13668956938791681711:Nat:=0
def PySem.W.Fast.tw7070158643914861449:Nat:=0
def PySem.W.Fast.tw8873347014874160674:Nat:=0
def PySem.W.Fast.tw14712365963895361525:Nat:=0
def PySem.W.Fast.tw10795355488560805122:Nat:=0
def PySem.W.Fast.tw8286547403451485499:Nat:=0
def PySem.W.Fast.tw4314661149370167872:Nat:=0
def PySem.W.Fast.tw12014061539208375469:Nat:=0
def PySem.W.Fast.tw10110381634830432861:Nat:=0
def PySem.W.Fast.tw18128925651329525554:Nat:=0
def PySem.W.Fast.tw8378488950594184748:Nat:=0
def PySem.W.Fast.tw15892242953759925246:Nat:=0
def PySem.W.Fast.tw15296519628317404399:Nat:=0
def PySem.W.Fast.tw11537926370044098796:Nat:=0
def PySem.W.Fast.tw11383802839720083361:Nat:=0
def PySem.W.Fast.tw8908432574474115436:Nat:=0
def PySem.W.Fast.tw8315146379079947187:Nat:=0
def PySem.W.Fast.tw11090495743948759750:Nat:=0
def PySem.W.Fast.tw10245730290090590421:Nat:=0
def PySem.W.Fast.tw16481488167087703605:Nat:=0
def PySem.W.Fast.tw8042209955415949284:Nat:=0
def PySem.W.Fast.tw4667499669497020241:Nat:=0
def PySem.W.Fast.tw18209934540590585135:Nat:=0
def PySem.W.Fast.tw2165476435840293322:Nat:=0
def PySem.W.Fast.tw7367863241826388794:Nat:=0
def PySem.W.Fast.tw2738863303753788799:Nat:=0
def PySem.W.Fast.tw13676560718136013071:Nat:=0
def PySem.W.Fast.tw8391556324442502853:Nat:=0
def PySem.W.Fast.tw13315512834470927623:Nat:=0
def PySem.W.Fast.tw13722436353959057465:Nat:=0
def PySem.W.Fast.tw12235270015501308963:Nat:=0
def PySem.W.Fast.tw16093490028742448281:Nat:=0
def PySem.W.Fast.tw10788815088760804107:Nat:=0
def PySem.W.Fast.tw12641067108390371155:Nat:=0
def PySem.W.Fast.tw16776323424219287783:Nat:=0
def PySem.W.Fast.tw18170566324687715412:Nat:=0
open PySem PySem.W PyProof.Rows
set_option maxRecDepth 100000 in
set_option maxHeartbeats 0 in
theorem PySem.Challenge.cw_shrinkhouse_k12_whole_more_never_heals_holds : PySem.Challenge.rw_shrinkhouse_k12_whole_more_never_heals.Holds := by
 w_on;o_law;k_head;(case hw=>w_witness2)
 k_fill
 refine K12.walk (l:=PySem.Challenge.rw_shrinkhouse_k12_whole_more_never_heals) rfl rfl (fun w h Y=>PySem.W.kIn_of Y) ?F
 case F =>
  intro w mg fa h KX G QF
  refine' K12.all_mk KX G QF ?GD ?Oi ?JT ?JU ?DV ?GF ?DW ?GG ?Oj ?Ol ?Om ?ui ?uO ?uP ?GH ?Oo ?DX ?GI ?vJ ?xK ?qh ?xM ?qi ?tH ?vK ?oE ?vL ?oF ?nI ?rS ?kZ ?rT ?k6 ?uj ?mD ?uk ?mE ?rV ?k7 ?rW ?k8 ?oG ?xN ?xO ?iY ?xP ?qj ?xQ ?qk ?vM ?xR ?qm ?xS ?qo ?zF ?zG ?Bk ?Bl ?vN ?vO ?um ?uo ?vP ?vQ ?uq ?ur ?uu ?uv ?rX ?rY ?zH ?zI ?xT ?xU ?rZ ?r6 ?k9 ?la ?vR ?q9 ?uw ?pA ?qE ?eM ?qF ?ni ?oH ?dE ?vS ?zJ ?sd ?zK ?sh ?si ?lb ?qG ?jU ?pX ?ux ?mF ?uy ?mG ?oI ?iM ?oJ ?iN ?nj ?ij ?pB ?js ?rf ?vT ?oK ?vU ?oM ?pC ?jt ?oN ?iO ?sj ?sk ?vV ?vW ?xV ?xW ?vX ?vY ?vZ ?v5 ?pD ?pE ?v7 ?v8 ?xX ?xY ?xZ ?x8 ?pF ?pG ?x9 ?ya ?yb ?yc ?v9 ?wa ?so ?sr ?LC ?LD ?Oq ?Ot ?JV ?JW ?yd ?Ou ?wb ?Ov ?JX ?Ow ?GJ ?Ox ?GK ?Oy ?uK ?kH ?ml ?nZ ?uL ?n5 ?kI ?zL ?zM ?zN ?zO ?zP ?zQ ?zR ?zS ?zT ?zU ?zV ?zW ?zX ?zY ?JY ?JZ ?J9 ?Ka ?ye ?Kb ?Kc ?Kd ?Ke ?Kf ?Kg ?yf ?Kh ?Ki ?Bm ?Bn ?Bo ?Bp ?wc ?su ?Bq ?Br ?Bs ?Bt ?Bu ?Bv ?we ?sv ?Bw ?Bx ?By ?Bz ?BA ?BB ?sy ?l9 ?BD ?BE ?Kj ?Kk ?Kl ?Km ?zZ ?Kn ?Ko ?GL ?GN ?GO ?GP ?yg ?uz ?GQ ?GR ?Kp ?Kq ?Kr ?Ks ?z3 ?Kt ?Ku ?Kv ?Kw ?Kx ?Ky ?pH ?Kz ?KA ?DY ?DZ ?D4 ?D5 ?qH ?uA ?nk ?D6 ?D7 ?D8 ?D9 ?Ea ?Eb ?yh ?uB ?Ec ?Ed ?r7 ?r8 ?KC ?KD ?KG ?KH ?KI ?KJ ?BF ?BG ?BH ?BI ?BJ ?BK ?BL ?BM ?BN ?KL ?KN ?KO ?GS ?GU ?GV ?KP ?KQ ?KR ?KS ?KU ?KW ?Ee ?Ef ?Eg ?Eh ?Ei ?Ej ?BO ?BP
  case GD | Oi | JT | JU | DV | GF | DW | GG | Oj | Ol | Om | ui | uO | uP | GH | Oo | DX | GI | zF | Bk | vN | um | vP | uq | uu | rX | zH | xT | rZ | k9 | vR | sj | vV | xV | vX | vZ | pD | v7 | xX | xZ | pF | x9 | yb | v9 | so | LC=>k_is
  case KC | KH | BF | BI | BL | KL | GS | KP | KS | Ee | Eh=>k_is
  case xK | xM | vK | vL | rS | rT | uj | uk | rV | rW | xN | xO | xP | xQ | xR | xS | uw | pA | qE | qF | ni | oH | zJ | zK | si | qG | ux | uy | oI | oJ | nj | pB | vT | vU | pC | oN=>k_is
  case vJ | qh | qi | tH | oE | oF | nI | kZ | k6 | mD | mE | k7 | k8 | oG | iY | qj | qk | vM | qm | qo | zG | Bl | vO | uo | vQ | ur | uv | rY | zI | xU | r6 | la | q9 | eM | dE | vS | sd | sh | lb | jU | pX | mF | mG | iM | iN | ij | js | rf | oK | oM | jt | iO | sk | vW | xW | vY | v5 | pE | v8 | xY | x8 | pG | ya | yc | wa | sr | LD=>exact⟨_,_,_,_,_,_,_,_,_,rfl,by k_is,by k_is,by k_is,by k_is⟩
  case Oq | Ot | JV | JW | yd | Ou | wb | Ov | JX | Ow | GJ | Ox | GK | Oy | uK | kH | ml | nZ | uL | n5 | kI | zM | zN | zO | zP | zQ | zR | zT | zU | zV | zW | zX | zY | JY | JZ | J9 | Ka | ye | Kb | Kc | Kd | Ke | Kf | Kg | yf | Kh | Ki | Bm | Bn | Bo | Bp | wc | su | Bq | Br | Bs | Bt | Bu | Bv | we | sv | Bw | Bx | By | Bz | BA | BB | sy | l9 | BD | BE | Kj | Kk | Kl | Km | zZ | Kn | Ko | GL | GN | GO | GP | yg | uz | GQ | GR | Kp | Kq | Kr | Ks | z3 | Kt | Ku | Kv | Kw | Kx | Ky | pH | Kz | KA | DY | DZ | D4 | D5 | qH | uA | nk | D6 | D7 | D8 | D9 | Ea | Eb | yh | uB | Ec | Ed | r7 | r8 | KD | KG | KI | KJ | BG | BH | BJ | BK | BM | BN | KN | KO | GU | GV | KQ | KR | KU | KW | Ef | Eg | Ei | Ej | BO | BP=>k_is
  case zL | zS=>k_exc
#print axioms PySem.Challenge.cw_shrinkhouse_k12_whole_more_never_heals_holds
