import PyProof.Rows.All
import Wide.All
import OpenK.AllK
import Wide.FinOn
import Lean
import PyProof.EqAt
import PyProof.EqKinds
import PyProof.TupleCall
import PyProof.ZipIter
import PyProof.DictItems
import PyProof.DictWalks
import KE.KSortTup
import KE.KDictSum
import PyProof.WalksMore
import PySem.Challenge.RW_lockstretch_k42_fair_by_hand
set_option Elab.async false
set_option linter.all false
set_option maxRecDepth 100000
variable {pins:List (PySem.Addr × PySem.Obj)} {E:PySem.Value → PySem.Shared → Prop} {K:PySem.W.Frag} {s:PySem.Shared} {w:PySem.World} {A:PySem.Around} {mg:PySem.Str → Option PySem.Value} {P:PySem.Program} {us:List PySem.Value} {ix:List (Option Nat)} {pos:PySem.Pos} {prog:PySem.Program} {st:PySem.Stmt} {es:List PySem.Expr} {sl:List Nat} {base:PySem.Heap} {fd:PySem.FuncData} {ρ:List PySem.Addr} {y:Option Int} {osl:Array (Option PySem.Value)}
namespace L2
open PySem PySem.Spec PyProof.Rows
abbrev bj:=Sum Int Str
def rM:bj → Value → Bool
 | .inl k,v=>Value.isInt k v
 | .inr x,v=>Value.isStrOf x v
def IC (w:World):bj → Int
 | .inl k=>hashInt k
 | .inr x=>hashStr w x
theorem cv:∀ {k:bj} {v:Value},rM k v = true → (∃ i t,k = Sum.inl i ∧ v = Value.int i t) ∨ (∃ x t,k = Sum.inr x ∧ v = Value.str x t)
 | .inl i,v,h=>by
  obtain ⟨t,e⟩:=Value.isInt_shape (k:=i) (v:=v) h
  exact .inl ⟨i,t,rfl,e⟩
 | .inr x,v,h=>by
  obtain ⟨t,e⟩:=Value.isStrOf_shape (x:=x) (v:=v) h
  exact .inr ⟨x,t,rfl,e⟩
theorem zF (i:Int) (t:Tok):rM (.inl i) (.int i t) = true:=by simp [rM,Value.isInt]
theorem zG (x:Str) (t:Tok):rM (.inr x) (.str x t) = true:=by simp [rM,Value.isStrOf]
theorem Go (a b:Int):decide ((Sum.inl a:bj) = Sum.inl b) = (a == b):=by
 by_cases e:a = b
 ·subst e; simp
 ·have h:¬ (Sum.inl a:bj) = Sum.inl b:=fun q=>e (Sum.inl.inj q)
  rw [decide_eq_false h]
  exact (beq_eq_false_iff_ne.mpr e).symm
theorem Gp (a b:Str):decide ((Sum.inr a:bj) = Sum.inr b) = decide (a = b):=by
 by_cases e:a = b
 ·subst e; simp
 ·have h:¬ (Sum.inr a:bj) = Sum.inr b:=fun q=>e (Sum.inr.inj q)
  rw [decide_eq_false h,decide_eq_false e]
theorem Gq (a:Int) (b:Str):decide ((Sum.inl a:bj) = Sum.inr b) = false:=decide_eq_false (fun q=>nomatch q)
theorem Gr (a:Str) (b:Int):decide ((Sum.inr a:bj) = Sum.inl b) = false:=decide_eq_false (fun q=>nomatch q)

def aU (prog:Program) (w:World):PySem.KeyKind prog w bj where
 is:=rM
 hash:=IC w
 inj:=fun v a b ha hb=>by
  rcases cv ha with ⟨i,t,rfl,rfl⟩ | ⟨x,t,rfl,rfl⟩
  ·rcases cv hb with ⟨j,u,rfl,e⟩ | ⟨y,u,rfl,e⟩
   ·injection e with e1 _; rw [e1]
   ·exact nomatch e
  ·rcases cv hb with ⟨j,u,rfl,e⟩ | ⟨y,u,rfl,e⟩
   ·exact nomatch e
   ·injection e with e1 _; rw [e1]
 byValue:=fun k v h=>by
  rcases cv h with ⟨i,t,rfl,rfl⟩ | ⟨x,t,rfl,rfl⟩ <;> rfl
 pyHash:=fun hv h=>by
  rcases cv hv with ⟨i,t,rfl,rfl⟩ | ⟨x,t,rfl,rfl⟩
  ·exact wpAny_pyHash_int h
  ·exact wpAny_pyHash_str h
 eqBool:=fun hu hv h=>by
  rcases cv hu with ⟨i,t,rfl,rfl⟩ | ⟨x,t,rfl,rfl⟩
  ·rcases cv hv with ⟨j,u,rfl,rfl⟩ | ⟨y,u,rfl,rfl⟩
   ·rw [Go] at h; exact wpAny_eqBool_int h
   ·rw [Gq] at h; exact SeqAt.EqAt.int_str i t y u _ _ _ _ h
  ·rcases cv hv with ⟨j,u,rfl,rfl⟩ | ⟨y,u,rfl,rfl⟩
   ·rw [Gr] at h; exact SeqAt.EqAt.str_int x t j u _ _ _ _ h
   ·rw [Gp] at h; exact wpAny_eqBool_str h
 «strs»:=fun k x t v h=>by
  rcases cv h with ⟨i,u,rfl,e⟩ | ⟨y,u,rfl,e⟩
  ·exact nomatch e
  ·injection e with e1 _
   subst e1
   cases v <;> rfl

theorem vc (prog:Program) (w:World) (i:Int) (t:Tok):(aU prog w).is (.inl i) (.int i t) = true:=zF i t
theorem iE (prog:Program) (w:World) (x:Str) (t:Tok):(aU prog w).is (.inr x) (.str x t) = true:=zG x t

inductive V where
 | non | bl (b:Bool) | int (i:Int) | str (x:Str) | byt (b:Array UInt8) | flt (b:UInt64) | ref (a:Addr) | ty (n:String)
 deriving DecidableEq

def aO:V → Value → Prop
 | .non,u=>u = Value.none
 | .bl b,u=>u = Value.bool b
 | .int i,u=>∃ t,u = Value.int i t
 | .str x,u=>∃ t,u = Value.str x t
 | .byt b,u=>∃ t,u = Value.bytes b t
 | .flt b,u=>∃ t,u = Value.float b t
 | .ref a,u=>u = Value.ref a
 | .ty n,u=>u = Value.type n

abbrev aN:List V → List Value → Prop:=Paired aO
theorem aN.length {xs:List V} (r:aN xs us):xs.length = us.length:=Paired.length r
theorem aN.get:∀ {xs:List V} {us:List Value} {i:Nat} {x:V},aN xs us → xs[i]? = some x → ∃ u,us[i]? = some u ∧ aO x u
 | _,_,_,_,.nil,e=>by simp at e
 | _,_,0,_,.cons r _,e=>by simp at e; subst e; exact ⟨_,rfl,r⟩
 | _,_,i + 1,x,.cons _ t,e=>by
  obtain ⟨u,h1,h2⟩:=aN.get (i:=i) (x:=x) t (by simpa using e)
  exact ⟨u,by simpa using h1,h2⟩
theorem aN.set {x:V} {u:Value} (r:aO x u):∀ {xs:List V} {us:List Value} (i:Nat),aN xs us → aN (xs.set i x) (us.set i u)
 | _,_,_,.nil=>.nil
 | _,_,0,.cons _ t=>.cons r t
 | _,_,i + 1,.cons q t=>.cons q (aN.set r i t)
theorem aN.append:∀ {xs ys:List V} {us ws:List Value},aN xs us → aN ys ws → aN (xs ++ ys) (us ++ ws)
 | _,_,_,_,.nil,s=>s
 | _,_,_,_,.cons r t,s=>.cons r (aN.append t s)
theorem aN.take:∀ {xs:List V} {us:List Value} (n:Nat),aN xs us → aN (xs.take n) (us.take n)
 | _,_,0,_=>.nil
 | _,_,_ + 1,.nil=>.nil
 | _,_,n + 1,.cons r t=>.cons r (aN.take n t)
theorem aN.drop:∀ {xs:List V} {us:List Value} (n:Nat),aN xs us → aN (xs.drop n) (us.drop n)
 | _,_,0,r=>r
 | _,_,_ + 1,.nil=>.nil
 | _,_,n + 1,.cons _ t=>aN.drop n t
theorem aN.none_of:∀ {xs:List V} {us:List Value} {i:Nat},aN xs us → xs[i]? = none → us[i]? = none:=fun {xs us i} r e=>by
 have h1:=r.length
 have h2:xs.length ≤ i:=List.getElem?_eq_none_iff.mp e
 exact List.getElem?_eq_none_iff.mpr (by omega)

def eV:Option V → Option Value → Prop
 | some v,some u=>aO v u
 | none,none=>True
 | _,_=>False
def KV {κ:Type}:List (κ × V) → List (κ × Value) → Prop:=Paired fun (p:κ × V) (q:κ × Value)=>p.1 = q.1 ∧ aO p.2 q.2

def kV:bj → V
 | .inl i=>.int i
 | .inr x=>.str x

inductive HO where
 /-- a list -/
 | lst (xs:List V)
 /-- a tuple (never changes) -/
 | tup (xs:List V)
 /-- a dict whose keys are ints and texts; one whose keys are tuples of ints and texts (the empty one is both) -/
 | dK (kvs:List (bj × V)) | dT (kvs:List (List bj × V))
 /-- a set of ints: its members,its size -/
 | set (S:Int → Bool) (n:Nat)
 /-- an instance of the class at C,its dict at dx,its attributes -/
 | ins (C dx:Addr) (fs:List (Str × V))
 /-- the dict of the instance at x -/
 | own (x:Addr)
 /-- the dict of an exception -/
 | xd (fs:List (Str × V))
 /-- a bound method,f of x -/
 | met (f x:Addr)
 /-- a range object lo,lo + 1,.. below hi -/
 | rng (lo hi:Int)
 /-- a thing that is known to the object (the script; a dict while a loop walks it): read,never written while it is so -/
 | frz (o:Obj) (u:HO)
 /-- a code object's table -/
 | tbl (ps:Array Value)
 /-- any other thing,by what is true of its one object (a def of one's own: SetO a S n:=HO.ext fun h=>..) -/
 | ext (φ:Heap → Prop)

abbrev Hp:=Addr → Option HO
def upd (H:Hp) (a:Addr) (o:HO):Hp:=fun b=>if b = a then some o else H b
theorem aC {H:Hp} {a:Addr} {o:HO}:upd H a o a = some o:=by unfold upd; rw [if_pos rfl]
theorem am {H:Hp} {a b:Addr} {o:HO} (h:b ≠ a):upd H a o b = H b:=by unfold upd; rw [if_neg h]
theorem yg {H:Hp} {a:Addr} {o u:HO}:upd (upd H a o) a u = upd H a u:=by
 funext b; unfold upd; split <;> rfl
theorem FL {H:Hp} {a b:Addr} {o u:HO} (h:H a = some o) (h':H b = some u) (d:o ≠ u):a ≠ b:=by
 intro e; subst e; rw [h] at h'; exact d (Option.some.inj h')
theorem cS {H:Hp} {a b:Addr} {o:HO} (h:H a = some o) (h':H b = none):a ≠ b:=by
 intro e; subst e; rw [h] at h'; cases h'

section
variable (P:Program) (w:World)
def cg (H:Hp) (h:Heap) (a:Addr):HO → Prop
 | .lst xs=>xs.length ≤ sizeLine ∧ ∃ (its:List Value) (n:Nat),aN xs its ∧ h.get? a = some { cls:=.type "list",data:=.seq its.toArray n }
 | .tup xs=>xs.length ≤ sizeLine ∧ ∃ its:List Value,aN xs its ∧ IsTup h a its.toArray
 | .dK kvs=>kvs.length ≤ sizeLine ∧ (a == sysModules) = false ∧ ∃ vs,KV kvs vs ∧ h.DictOf (aU P w) a vs
 | .dT kvs=>kvs.length ≤ sizeLine ∧ (a == sysModules) = false ∧ ∃ xs:List (List bj × Addr × Value),
   Paired (fun (p:List bj × V) (q:List bj × Addr × Value)=>p.1 = q.1 ∧ H q.2.1 = some (.tup (p.1.map kV)) ∧ aO p.2 q.2.2) kvs xs ∧
   ∃ o es ep,h.get? a = some o ∧ o.ExactDict ∧ o.data = .dict es ep ∧ es.toList = xs.map (entryOfKey (tupleKind (aU P w))) ∧ (xs.map (·.1)).Nodup
 | .set S n=>h.SetOf (intKind P w) a S n
 | .ins C dx fs=>H dx = some (.own a) ∧ fs.length ≤ 1000 ∧ dx ≠ a ∧ h.get? a = some (PySem.W.instObj C dx) ∧
   ∃ mA,h.Ns1 dx mA ∧ (∀ f,eV (fs.lookup f) (mA f)) ∧ PySem.Within mA (fs.map (·.1))
 | .own _=>∃ o,h.get? a = some o
 | .xd fs=>∃ mA,h.Ns1 a mA ∧ ∀ f,eV (fs.lookup f) (mA f)
 | .rng lo hi=>∃ t u v,h.get? a = some { cls:=.type "range",data:=.fields #[.int lo t,.int hi u,.int 1 v] }
 | .frz o u=>h.get? a = some o ∧ cg H h a u
 | .tbl ps=>h.get? a = some { cls:=.none,data:=.fields ps }
 | .met f x=>h.get? a = some (PySem.W.methodObj (.ref f) (.ref x))
 | .ext φ=>φ h ∧ (∃ o,h.get? a = some o) ∧ ∀ h1 h2:Heap,φ h1 → (∀ o,h1.get? a = some o → h2.get? a = some o) → φ h2
def iF (H:Hp) (h:Heap):Prop:=∀ a o,H a = some o → cg P w H h a o
end
section
variable {H H':Hp} {h h':Heap} {a:Addr} {o:HO}
theorem cg.lt (x:cg P w H h a o):a < h.objs.size:=by
 cases o with
 | lst xs=>obtain ⟨_,_,_,_,e⟩:=x; exact Heap.lt_size e
 | tup xs=>obtain ⟨_,_,_,p⟩:=x; exact p.lt
 | dK kvs=>obtain ⟨_,_,_,_,o,_,_,e,_⟩:=x; exact Heap.lt_size e
 | dT kvs=>obtain ⟨_,_,_,_,o,_,_,e,_⟩:=x; exact Heap.lt_size e
 | set S n=>obtain ⟨o,_,_,_,e,_⟩:=x; exact Heap.lt_size e
 | ins C dx fs=>obtain ⟨_,_,_,e,_⟩:=x; exact Heap.lt_size e
 | own y=>obtain ⟨_,e⟩:=x; exact Heap.lt_size e
 | xd fs=>obtain ⟨_,⟨_,_,_,e,_⟩,_⟩:=x; exact Heap.lt_size e
 | rng lo hi=>obtain ⟨_,_,_,e⟩:=x; exact Heap.lt_size e
 | frz ob u=>obtain ⟨e,_⟩:=x; exact Heap.lt_size e
 | tbl ps=>exact Heap.lt_size (show h.get? a = some _ from x)
 | met f y=>exact Heap.lt_size (show h.get? a = some _ from x)
 | ext φ=>obtain ⟨_,⟨_,e⟩,_⟩:=x; exact Heap.lt_size e
theorem Paired.mapP {α β:Type} {F G:α → β → Prop}:∀ {l₁:List α} {l₂:List β},Paired F l₁ l₂ → (∀ a b,F a b → G a b) → Paired G l₁ l₂
 | _,_,.nil,_=>.nil
 | _,_,.cons r t,f=>.cons (f _ _ r) (Paired.mapP t f)
theorem cg.stay (x:cg P w H h a o) (k:∀ b u,(b = a ∨ H b = some (.own a)) → h.get? b = some u → h'.get? b = some u)
  (ho:∀ b,H b = some (.own a) → H' b = some (.own a)) (ht:∀ b xs,H b = some (.tup xs) → H' b = some (.tup xs)):cg P w H' h' a o:=by
 induction o with
 | lst xs=>obtain ⟨z,its,n,r,e⟩:=x; exact ⟨z,its,n,r,k _ _ (.inl rfl) e⟩
 | tup xs=>obtain ⟨z,its,r,ob,e,c⟩:=x; exact ⟨z,its,r,ob,k _ _ (.inl rfl) e,c⟩
 | dK kvs=>obtain ⟨z,y,vs,r,ob,es,ep,e,c⟩:=x; exact ⟨z,y,vs,r,ob,es,ep,k _ _ (.inl rfl) e,c⟩
 | dT kvs =>
  obtain ⟨z,y,xs,r,ob,es,ep,e,c⟩:=x
  exact ⟨z,y,xs,Paired.mapP r fun p q z=>⟨z.1,ht _ _ z.2.1,z.2.2⟩,ob,es,ep,k _ _ (.inl rfl) e,c⟩
 | set S n=>obtain ⟨ob,es,ep,t,e,c⟩:=x; exact ⟨ob,es,ep,t,k _ _ (.inl rfl) e,c⟩
 | ins C dx fs =>
  obtain ⟨d,z,ne,e,mA,⟨od,es,ep,e2,c⟩,r⟩:=x
  exact ⟨ho _ d,z,ne,k _ _ (.inl rfl) e,mA,⟨od,es,ep,k _ _ (.inr d) e2,c⟩,r⟩
 | own y=>obtain ⟨ob,e⟩:=x; exact ⟨ob,k _ _ (.inl rfl) e⟩
 | xd fs=>obtain ⟨mA,⟨od,es,ep,e,c⟩,r⟩:=x; exact ⟨mA,⟨od,es,ep,k _ _ (.inl rfl) e,c⟩,r⟩
 | rng lo hi=>obtain ⟨t,u,v,e⟩:=x; exact ⟨t,u,v,k _ _ (.inl rfl) e⟩
 | frz ob u ih=>obtain ⟨e,q⟩:=x; exact ⟨k _ _ (.inl rfl) e,ih q⟩
 | tbl ps =>
  have e:h.get? a = some { cls:=.none,data:=.fields ps }:=x
  show h'.get? a = some { cls:=.none,data:=.fields ps }
  exact k a _ (.inl rfl) e
 | met f y =>
  have e:h.get? a = some (PySem.W.methodObj (.ref f) (.ref y)):=x
  show h'.get? a = some (PySem.W.methodObj (.ref f) (.ref y))
  exact k a _ (.inl rfl) e
 | ext φ=>obtain ⟨p,⟨o,e⟩,st⟩:=x; exact ⟨st _ _ p fun o q=>k _ _ (.inl rfl) q,⟨o,k _ _ (.inl rfl) e⟩,st⟩
theorem iF.lt (x:iF P w H h) (e:H a = some o):a < h.objs.size:=(x a o e).lt
theorem iF.fresh (x:iF P w H h) (e:h.objs.size ≤ a):H a = none:=by
 cases q:H a with
 | none=>rfl
 | some u=>exact absurd (Nat.lt_of_lt_of_le (x.lt q) e) (Nat.lt_irrefl _)
theorem iF.kept (x:iF P w H h) (k:∀ b u,h.get? b = some u → h'.get? b = some u):iF P w H h':=fun a o e =>
 (x a o e).stay (fun b u _ q=>k b u q) (fun _ q=>q) fun _ _ q=>q
theorem iF.laid (x:iF P w H h) (k:∀ b u,h.get? b = some u → h'.get? b = some u) (hp:h.objs.size ≤ a) (new:cg P w (upd H a o) h' a o):iF P w (upd H a o) h':=fun b u e=>by
 have hn:=x.fresh hp
 by_cases hb:b = a
 ·subst hb; rw [aC] at e; cases e; exact new
 ·rw [am hb] at e
  exact (x b u e).stay (fun c v _ q=>k c v q) (fun c q=>by rw [am (cS q hn)]; exact q) fun c xs q=>by rw [am (cS q hn)]; exact q
end
def Rd (H:Hp) (a:Addr) (u:HO):Prop:=H a = some u ∨ ∃ o,H a = some (.frz o u)
theorem Rd.ok {H:Hp} {h:Heap} {a:Addr} {u:HO} (r:Rd H a u) (x:iF P w H h):cg P w H h a u:=by
 rcases r with r | ⟨o,r⟩
 ·exact x a u r
 ·obtain ⟨_,q⟩:=x a _ r
  exact q
def ID:Option HO → Prop
 | some (.lst _)=>True
 | some (.dK _)=>True
 | some (.dT _)=>True
 | some (.set _ _)=>True
 | some (.ins _ _ _)=>True
 | some (.ext _)=>True
 | _=>False
section
variable {H:Hp} {h h':Heap} {x e:Addr} {o':HO}
theorem iF.write (ok:iF P w H h) (mu:ID (H x)) (he:e = x ∨ H e = some (.own x)) (k:∀ b u,b ≠ e → h.get? b = some u → h'.get? b = some u) (heo:∃ u,h'.get? e = some u)
  (new:cg P w (upd H x o') h' x o'):iF P w (upd H x o') h':=fun b u q=>by
 have nown:∀ c y,H c = some (.own y) → c ≠ x:=fun c y r z=>by subst z; rw [r] at mu; exact mu
 have ntup:∀ c xs,H c = some (.tup xs) → c ≠ x:=fun c xs r z=>by subst z; rw [r] at mu; exact mu
 by_cases hb:b = x
 ·subst hb; rw [aC] at q; cases q; exact new
 ·rw [am hb] at q
  by_cases hbe:b = e
  ·have q':H b = some (.own x):=by
    rcases he with z | z
    ·exact absurd (hbe.trans z) hb
    ·rw [hbe]; exact z
   rw [q] at q'; cases q'
   obtain ⟨v,hv⟩:=heo
   exact ⟨v,by rw [hbe]; exact hv⟩
  ·refine (ok b u q).stay (fun c v hc r=>k c v ?_ r) (fun c r=>by rw [am (nown c b r)]; exact r) fun c xs r=>by rw [am (ntup c xs r)]; exact r
   rcases hc with rfl | hc
   ·exact hbe
   ·rintro rfl
    rcases he with z | z
    ·exact nown c b hc z
    ·rw [hc] at z; cases z; exact hb rfl
end
structure Un (fs ex:List Addr) (H H':Hp) (h h':Heap):Prop where
 keep:∀ b o,h.get? b = some o → H b = none → b ∉ fs → b ∉ ex → h'.get? b = some o
 slot:∀ b o,h.get? b = some o → H b = none → b ∈ fs → b ∉ ex → ∃ sl,h'.get? b = some { o with slots:=sl }
 free:∀ b o,h.get? b = some o → H b = none → b ∉ ex → H' b = none
 there:∀ b o,h.get? b = some o → b ∉ ex → ∃ o',h'.get? b = some o'
 tups:∀ b xs,H b = some (.tup xs) → H' b = some (.tup xs)
 frzs:∀ b o u,H b = some (.frz o u) → H' b = some (.frz o u)
 tbls:∀ b ps,H b = some (.tbl ps) → ∃ more,H' b = some (.tbl (ps ++ more))
section
variable {fs fs' ex ex':List Addr} {H H1 H2:Hp} {h h1 h2 h':Heap} {a x e:Addr} {o:HO}
theorem Un.any (u:Un fs ex H H1 h h1) {b:Addr} {ob:Obj} (q:h.get? b = some ob) (n:H b = none) (hx:b ∉ ex):∃ sl,h1.get? b = some { ob with slots:=sl }:=by
 by_cases hb:b ∈ fs
 ·exact u.slot b ob q n hb hx
 ·exact ⟨ob.slots,u.keep b ob q n hb hx⟩
theorem Un.kept (k:∀ b u,h.get? b = some u → h'.get? b = some u):Un fs ex H H h h' :=
 ⟨fun b ob q _ _ _=>k b ob q,fun b ob q _ _ _=>⟨ob.slots,k b ob q⟩,fun _ _ _ n _=>n,fun b ob q _=>⟨ob,k b ob q⟩,fun _ _ q=>q,fun _ _ _ q=>q,fun _ ps q=>⟨#[],by rw [q]; simp⟩⟩
theorem Un.refl:Un fs ex H H h h:=Un.kept fun _ _ q=>q
theorem Un.laid (k:∀ b u,h.get? b = some u → h'.get? b = some u) (hp:h.objs.size ≤ a) (hn:H a = none):Un fs ex H (upd H a o) h h' where
 keep:=fun b u q _ _ _=>k b u q
 slot:=fun b u q _ _ _=>⟨u.slots,k b u q⟩
 free:=fun b u q n _=>by rw [am (Nat.ne_of_lt (Nat.lt_of_lt_of_le (Heap.lt_size q) hp))]; exact n
 there:=fun b u q _=>⟨u,k b u q⟩
 tups:=fun b xs q=>by rw [am (cS q hn)]; exact q
 frzs:=fun b u xs q=>by rw [am (cS q hn)]; exact q
 tbls:=fun b ps q=>⟨#[],by rw [am (cS q hn),q]; simp⟩
theorem Un.write (mu:ID (H x)) (he:e = x ∨ H e = some (.own x)) (k:∀ b u,b ≠ e → h.get? b = some u → h'.get? b = some u) (heo:∃ u,h'.get? e = some u):Un fs ex H (upd H x o) h h':=by
 have hx:∀ b,H b = none → b ≠ x:=fun b n z=>by subst z; rw [n] at mu; exact mu
 have hb:∀ b,H b = none → b ≠ e:=fun b n z=>by
  subst z
  rcases he with r | r
  ·exact hx b n r
  ·rw [n] at r; cases r
 have hm:∀ b u,H b = some u → ¬ ID (some u) → b ≠ x:=fun b u q nm z=>by subst z; rw [q] at mu; exact nm mu
 refine ⟨fun b u q n _ _=>k b u (hb b n) q,fun b u q n _ _=>⟨u.slots,k b u (hb b n) q⟩,fun b u q n _=>by rw [am (hx b n)]; exact n,fun b u q _=>?_,
  fun b xs q=>by rw [am (hm b _ q fun z=>z)]; exact q,fun b u xs q=>by rw [am (hm b _ q fun z=>z)]; exact q,fun b ps q=>⟨#[],by rw [am (hm b _ q fun z=>z),q]; simp⟩⟩
 by_cases hbe:b = e
 ·subst hbe; exact heo
 ·exact ⟨u,k b u hbe q⟩
end
def JR (h:Heap) (H:Hp):List Addr:=(List.range h.objs.size).filter fun a=>(H a).isSome
def s0 (h:Heap) (H:Hp):Heap:=PySem.W.hideAll h (JR h H)
theorem zH (h:Heap) (H:Hp):(s0 h H).objs.size = h.objs.size:=PySem.W.hideAll_size _ _
theorem og {h:Heap} {H:Hp} {b:Addr} {o:Obj} (e:h.get? b = some o) (n:H b = none):(s0 h H).get? b = some o :=
 PySem.W.hideAll_get _ e fun hm=>by
  have q:(H b).isSome = true:=(List.mem_filter.mp hm).2
  rw [n] at q; simp at q
theorem Ea {h:Heap} {H:Hp} {b:Addr} {o:Obj} (e:(s0 h H).get? b = some o):h.get? b = some o ∧ H b = none:=by
 have e':h.get? b = some o:=PySem.W.of_hideAll (JR h H) e
 refine ⟨e',?_⟩
 cases q:H b with
 | none=>rfl
 | some x =>
  have hm:b ∈ JR h H:=List.mem_filter.mpr ⟨List.mem_range.mpr (Heap.lt_size e'),by simp [q]⟩
  have z:(s0 h H).get? b = none:=PySem.W.hideAll_none (JR h H) hm
  rw [z] at e; cases e

def Eb (g h:Heap) (L:Addr):List (Addr × Obj):=(List.range h.objs.size).filterMap fun a=>if a = L ∨ (g.get? a).isSome = true then none else (h.get? a).map fun o=>(a,o)
def rest (g h:Heap) (L d:Addr):List (Addr × Obj):=(Eb g h L).filter fun p=>decide (p.1 ≠ d)
structure Mod (K:PySem.W.Frag) (mg:Str → Option Value) (base:Heap):Prop where
 kin:K.In base
 glob:base.Ns mainGlobals mg
 blt:∃ mb,base.Ns builtinsNs mb ∧ ∀ x:Str,x ≠ "__name__" → mb x = bootBuiltins x
 nolimit:base.NoLimit

structure Cx where
 prog:Program
 w:World
 K:PySem.W.Frag
 mg:Str → Option Value
 base:Heap
 A:Around
 N:List Str
 s₀:Shared
 H₀:Hp
 env:Env
 outer:List Env
 stack:List Env
 ex:List Addr
 fn:Str → Bool
 calm:Bool
 pn:List (Addr × Obj)
 xe:Value → Shared → Prop
def vd (l:List Env):List Addr:=l.filterMap (·.frame)
abbrev Cx.fs (X:Cx):List Addr:=vd X.outer

def IE (sc:Scope) (x:Str):Prop:=sc.names.lookup x = some .local ∨ sc.names.lookup x = some .cell ∨ sc.names.lookup x = some .free
def eD (sc:Scope) (x:Str):Prop:=sc.names.lookup x = some .local ∨ sc.names.lookup x = some .cell
def J2 (env:Env) (h:Heap) (m:Str → Option Value) (x:Str) (u:Value):Prop :=
 (env.kindOf x = some .local ∧ m x = some u) ∨ ((env.kindOf x = some .cell ∨ env.kindOf x = some .free) ∧ ∃ c,env.cells.lookup x = some c ∧ h.IsCell c (some u))

structure Cx.Ok (X:Cx):Prop where
 mod:Mod X.K X.mg X.base
 kind:X.env.scope.kind = .function
 glob:X.env.globals = mainGlobals
 blt:X.env.builtins = builtinsNs
 above:X.s₀.heap.objs.size ≤ X.env.locals
 inj:∀ x y c,X.env.cells.lookup x = some c → X.env.cells.lookup y = some c → x = y
 has:∀ x,(X.env.kindOf x = some .cell ∨ X.env.kindOf x = some .free) → ∃ c,X.env.cells.lookup x = some c
 cab:∀ x c,X.fn x = true → X.env.cells.lookup x = some c → X.s₀.heap.objs.size ≤ c
 hd:X.calm = true → X.A.handled = none
 frames:X.A.frames = some X.stack
 stk:X.stack = X.outer ∨ (X.stack = X.env :: X.outer ∧ X.env.frame = some X.env.locals)
 exf:∀ b ∈ X.ex,b ≠ X.env.locals ∧ ∀ x c,X.env.cells.lookup x = some c → c ≠ b
 bs:∀ b o,X.base.get? b = some o → X.s₀.heap.get? b = some o ∧ X.H₀ b = none
 bsz:X.base.objs.size ≤ X.s₀.heap.objs.size
 noex:∀ b o,X.base.get? b = some o → b ∉ X.ex
 exfs:∀ b ∈ X.ex,b ∉ X.fs
 funs:X.s₀.heap.FunFrames X.base X.outer
 frf:∀ b ∈ X.fs,X.H₀ b = none

structure aG (X:Cx) (pins:List (Addr × Obj)) (σ:List (Option V)) (H:Hp) (s:Shared):Prop where
 ok:X.Ok
 os:s.os = X.s₀.os
 bare:AllBare s.gens
 base:Un X.fs X.ex X.H₀ H X.s₀.heap s.heap
 loc:∃ m,s.heap.Ns X.env.locals m ∧ ∀ (i:Nat) (x:Str) (v:V),X.N[i]? = some x → σ[i]? = some (some v) → IE X.env.scope x → ∃ u,aO v u ∧ J2 X.env s.heap m x u
 cell:∀ x c,X.env.cells.lookup x = some c → ∃ v,s.heap.IsCell c v
 free:H X.env.locals = none
 freeC:∀ x c,X.env.cells.lookup x = some c → H c = none
 pin:∀ p ∈ X.pn ++ pins,s.heap.get? p.1 = some p.2 ∧ H p.1 = none ∧ p.1 ≠ X.env.locals ∧ p.1 ∉ X.fs ∧ ∀ v,p.2.data ≠ .cell v
 hok:iF X.prog X.w H s.heap
 len:σ.length = X.N.length

section
variable {X:Cx} {σ:List (Option V)} {H H':Hp} {h':Heap}
theorem Cx.Ok.nofr (ok:X.Ok) {b:Addr} {o:Obj} (e:X.base.get? b = some o):b ∉ X.fs:=fun hb=>by
 have:=(ok.funs.mem hb).1
 rw [e] at this; cases this
theorem aG.bs (I:aG X pins σ H s):∀ b o,X.base.get? b = some o → s.heap.get? b = some o ∧ H b = none:=fun b o e =>
 ⟨I.base.keep b o (I.ok.bs b o e).1 (I.ok.bs b o e).2 (I.ok.nofr e) (I.ok.noex b o e),I.base.free b o (I.ok.bs b o e).1 (I.ok.bs b o e).2 (I.ok.noex b o e)⟩
theorem aG.bk (I:aG X pins σ H s):∀ b o,X.base.get? b = some o → s.heap.get? b = some o:=fun b o e=>(I.bs b o e).1
theorem aG.mod (I:aG X pins σ H s):Mod X.K X.mg X.base:=I.ok.mod
theorem aG.kIn (I:aG X pins σ H s):X.K.In s.heap:=I.ok.mod.kin.keeps I.bk
theorem aG.fr (I:aG X pins σ H s):∃ m,Fr X.base X.env.locals s.heap m :=
 let ⟨m,hn,_⟩:=I.loc
 ⟨m,hn,I.bk,Nat.le_trans I.ok.bsz I.ok.above⟩
theorem aG.lt (I:aG X pins σ H s):X.env.locals < s.heap.objs.size:=let ⟨_,hn,_⟩:=I.loc; hn.lt
theorem aG.sz (I:aG X pins σ H s):X.s₀.heap.objs.size ≤ s.heap.objs.size:=Nat.le_trans I.ok.above (Nat.le_of_lt I.lt)
theorem aG.nofs (I:aG X pins σ H s) {a:Addr} (h:s.heap.objs.size ≤ a):a ∉ X.fs:=fun hb=>by
 obtain ⟨_,o,ho,_⟩:=I.ok.funs.mem hb
 exact absurd (Nat.lt_of_lt_of_le (Heap.lt_size ho) (Nat.le_trans I.sz h)) (Nat.lt_irrefl _)
theorem aG.cne (I:aG X pins σ H s):∀ x c,X.env.cells.lookup x = some c → c ≠ X.env.locals:=fun x c e z=>by
 obtain ⟨v,o,ho,hd⟩:=I.cell x c e
 obtain ⟨m,⟨o',es,ep,ho',hd',_⟩,_⟩:=I.loc
 rw [z,ho'] at ho; cases ho; rw [hd'] at hd; cases hd
theorem aG.funs (I:aG X pins σ H s):s.heap.FunFrames X.base X.outer:=by
 have all:∀ (l:List Env),(∀ b ∈ vd l,b ∈ X.fs) → X.s₀.heap.FunFrames X.base l → s.heap.FunFrames X.base l:=by
  intro l
  induction l with
  | nil=>intro _ _; trivial
  | cons env r ih =>
   intro hs hl
   obtain ⟨hk,⟨L,o,hf,hn,ho,hd⟩,hr⟩:=hl
   have hL:L ∈ X.fs:=hs L (by unfold vd; rw [List.filterMap_cons,hf]; exact List.mem_cons_self)
   obtain ⟨sl,e⟩:=I.base.slot L o ho (I.ok.frf L hL) hL fun z=>I.ok.exfs L z hL
   exact ⟨hk,⟨L,_,hf,hn,e,hd⟩,ih (fun b hb=>hs b (by unfold vd; rw [List.filterMap_cons,hf]; exact List.mem_cons_of_mem _ hb)) hr⟩
 exact all X.outer (fun _ hb=>hb) I.ok.funs

theorem aG.stack (I:aG X pins σ H s):s.heap.FunFrames X.base X.stack:=by
 rcases I.ok.stk with e | ⟨e,hf⟩
 ·rw [e]; exact I.funs
 ·rw [e]
  obtain ⟨m,hn,_⟩:=I.loc
  refine .cons (by rw [I.ok.kind]; decide) hf hn ?_ I.funs
  exact Heap.get?_none_of_le (Nat.le_trans I.ok.bsz I.ok.above)
theorem aG.stkSub (I:aG X pins σ H s):∀ b ∈ vd X.stack,b ∈ X.env.locals :: X.fs:=fun b hb=>by
 rcases I.ok.stk with e | ⟨e,hf⟩
 ·rw [e] at hb; exact List.mem_cons_of_mem _ hb
 ·rw [e] at hb
  unfold vd at hb
  rw [List.filterMap_cons,hf] at hb
  exact hb
theorem aG.stkFree (I:aG X pins σ H s):∀ b ∈ vd X.stack,H b = none:=fun b hb=>by
 rcases List.mem_cons.mp (I.stkSub b hb) with e | hb
 ·rw [e]; exact I.free
 ·obtain ⟨_,o,ho,_⟩:=I.ok.funs.mem hb
  exact I.base.free b o ho (I.ok.frf b hb) fun z=>I.ok.exfs b z hb

theorem aG.step {g':Array GenState} {t':Nat} {d':Drawn} {ch:List Addr} (I:aG X pins σ H s)
  (hch:∀ b ∈ ch,(b ∈ X.ex ∨ X.s₀.heap.objs.size ≤ b) ∧ b ≠ X.env.locals ∧ (∀ x c,X.env.cells.lookup x = some c → c ≠ b) ∧ ∀ p ∈ X.pn ++ pins,p.1 ≠ b)
  (keep:∀ b o,b ≠ X.env.locals → b ∉ X.fs → b ∉ ch → s.heap.get? b = some o → H b = none → h'.get? b = some o)
  (slot:∀ b o,b ≠ X.env.locals → b ∈ X.fs → b ∉ ch → s.heap.get? b = some o → H b = none → ∃ sl,h'.get? b = some { o with slots:=sl }) (free:∀ b o,b ∉ ch → s.heap.get? b = some o → H b = none → H' b = none)
  (there:∀ b o,b ∉ ch → s.heap.get? b = some o → ∃ o',h'.get? b = some o')
  (tups:∀ b xs,H b = some (.tup xs) → H' b = some (.tup xs)) (frzs:∀ b o u,H b = some (.frz o u) → H' b = some (.frz o u)) (tbls:∀ b ps,H b = some (.tbl ps) → ∃ more,H' b = some (.tbl (ps ++ more)))
  (ns:∀ m,s.heap.Ns X.env.locals m → h'.Ns X.env.locals m) (hok:iF X.prog X.w H' h') (hg:AllBare g') :
  aG X pins σ H' { s with heap:=h',gens:=g',drawn:=d',toks:=t' }:=by
 have neL:∀ b o,X.s₀.heap.get? b = some o → b ≠ X.env.locals:=fun b o e=>Nat.ne_of_lt (Nat.lt_of_lt_of_le (Heap.lt_size e) I.ok.above)
 have neC:∀ b o,X.s₀.heap.get? b = some o → b ∉ X.ex → b ∉ ch:=fun b o e hx hb=>by
  rcases (hch b hb).1 with z | z
  ·exact hx z
  ·exact absurd (Nat.lt_of_lt_of_le (Heap.lt_size e) z) (Nat.lt_irrefl _)
 have cellK:∀ x c,X.env.cells.lookup x = some c → ∀ v,s.heap.IsCell c v → h'.IsCell c v:=fun x c e v ⟨o,ho,hd⟩=>by
  have nch:c ∉ ch:=fun z=>(hch c z).2.2.1 x c e rfl
  by_cases hc:c ∈ X.fs
  ·obtain ⟨sl,q⟩:=slot c o (I.cne x c e) hc nch ho (I.freeC x c e)
   exact ⟨_,q,hd⟩
  ·exact ⟨o,keep c o (I.cne x c e) hc nch ho (I.freeC x c e),hd⟩
 refine ⟨I.ok,I.os,hg,⟨fun b o e n hb hx=>?_,fun b o e n hb hx=>?_,fun b o e n hx=>?_,fun b o e hx=>?_,fun b xs e=>tups b xs (I.base.tups b xs e),fun b o xs e=>frzs b o xs (I.base.frzs b o xs e),fun b ps e=>?_⟩,?_,fun x c e=>?_,?_,fun x c e=>?_,fun p hp=>?_,hok,I.len⟩
 ·exact keep b o (neL b o e) hb (neC b o e hx) (I.base.keep b o e n hb hx) (I.base.free b o e n hx)
 ·obtain ⟨sl,e1⟩:=I.base.slot b o e n hb hx
  obtain ⟨sl',e2⟩:=slot b _ (neL b o e) hb (neC b o e hx) e1 (I.base.free b o e n hx)
  exact ⟨sl',e2⟩
 ·obtain ⟨o',e1⟩:=I.base.there b o e hx
  exact free b o' (neC b o e hx) e1 (I.base.free b o e n hx)
 ·obtain ⟨o',e1⟩:=I.base.there b o e hx
  exact there b o' (neC b o e hx) e1
 ·obtain ⟨m1,e1⟩:=I.base.tbls b ps e
  obtain ⟨m2,e2⟩:=tbls b _ e1
  exact ⟨m1 ++ m2,by rw [e2,Array.append_assoc]⟩
 ·obtain ⟨m,hn,hl⟩:=I.loc
  refine ⟨m,ns m hn,fun i x v e1 e2 e3=>?_⟩
  obtain ⟨u,r,l⟩:=hl i x v e1 e2 e3
  refine ⟨u,r,?_⟩
  rcases l with l | ⟨k,c,e,z⟩
  ·exact .inl l
  ·exact .inr ⟨k,c,e,cellK x c e _ z⟩
 ·obtain ⟨v,z⟩:=I.cell x c e
  exact ⟨v,cellK x c e v z⟩
 ·obtain ⟨m,⟨o,_,_,ho,_⟩,_⟩:=I.loc
  exact free _ o (fun z=>(hch _ z).2.1 rfl) ho I.free
 ·obtain ⟨v,o,ho,hd⟩:=I.cell x c e
  exact free c o (fun z=>(hch c z).2.2.1 x c e rfl) ho (I.freeC x c e)
 ·obtain ⟨e,n,ne,nf,d⟩:=I.pin p hp
  have nch:p.1 ∉ ch:=fun z=>(hch p.1 z).2.2.2 p hp rfl
  exact ⟨keep p.1 p.2 ne nf nch e n,free p.1 p.2 nch e n,ne,nf,d⟩
theorem aG.un {t':Nat} (I:aG X pins σ H s) (u:Un X.fs [] H H' s.heap h') (hok:iF X.prog X.w H' h'):aG X pins σ H' { s with heap:=h',toks:=t' }:=by
 obtain ⟨m,⟨o,es,ep,ho,r⟩,_⟩:=id I.loc
 obtain ⟨sl,hL⟩:=u.any ho I.free (by simp)
 exact I.step (g':=s.gens) (d':=s.drawn) (ch:=[]) (fun _ z=>nomatch z) (fun b o _ hb _ e n=>u.keep b o e n hb (by simp)) (fun b o _ hb _ e n=>u.slot b o e n hb (by simp)) (fun b o _ e n=>u.free b o e n (by simp)) (fun b o _ e=>u.there b o e (by simp)) u.tups u.frzs u.tbls (fun m' hm=>by
  obtain ⟨o',es',ep',ho',r'⟩:=hm
  rw [ho] at ho'; cases ho'
  exact ⟨_,es',ep',hL,r'⟩) hok I.bare
theorem aG.call {g':Array GenState} {t':Nat} {d':Drawn} {ch:List Addr} (I:aG X pins σ H s) (u:Un (vd X.stack) ch H H' s.heap h') (hok:iF X.prog X.w H' h') (hg:AllBare g')
  (hch:∀ b ∈ ch,(b ∈ X.ex ∨ X.s₀.heap.objs.size ≤ b) ∧ b ≠ X.env.locals ∧ (∀ x c,X.env.cells.lookup x = some c → c ≠ b) ∧ ∀ p ∈ X.pn ++ pins,p.1 ≠ b) :
  aG X pins σ H' { s with heap:=h',gens:=g',drawn:=d',toks:=t' }:=by
 obtain ⟨m,⟨o,es,ep,ho,r⟩,_⟩:=id I.loc
 obtain ⟨sl,hL⟩:=u.any ho I.free fun z=>(hch _ z).2.1 rfl
 exact I.step (ch:=ch) hch (fun b o hL hb hc e n=>u.keep b o e n (fun z=>(List.mem_cons.mp (I.stkSub b z)).elim hL hb) hc) (fun b o _ _ hc e n=>u.any e n hc) (fun b o hc e n=>u.free b o e n hc) (fun b o hc e=>u.there b o e hc) u.tups u.frzs u.tbls (fun m' hm=>by
  obtain ⟨o',es',ep',ho',r'⟩:=hm
  rw [ho] at ho'; cases ho'
  exact ⟨_,es',ep',hL,r'⟩) hok hg
theorem aG.turned {t':Nat} {it:Addr} (I:aG X pins σ H s) (k:∀ b o,b ≠ it → s.heap.get? b = some o → h'.get? b = some o) (hn:H it = none) (hL:it ≠ X.env.locals)
  (h1:it ∈ X.ex ∨ X.s₀.heap.objs.size ≤ it) (h2:∀ x c,X.env.cells.lookup x = some c → c ≠ it) (h3:∀ p ∈ X.pn ++ pins,p.1 ≠ it):aG X pins σ H { s with heap:=h',toks:=t' }:=by
 have nit:∀ b u,H b = some u → b ≠ it:=fun b u e z=>by rw [z,hn] at e; cases e
 refine I.step (g':=s.gens) (d':=s.drawn) (ch:=[it]) (fun b hb=>?_) (fun b o _ _ hc e _=>k b o (fun z=>hc (by simp [z])) e) (fun b o _ _ hc e _=>⟨o.slots,k b o (fun z=>hc (by simp [z])) e⟩) (fun _ _ _ _ n=>n)
  (fun b o hc e=>⟨o,k b o (fun z=>hc (by simp [z])) e⟩) (fun _ _ e=>e) (fun _ _ _ e=>e) (fun b ps e=>⟨#[],by rw [e]; simp⟩) (fun m hm=>?_) (fun b u e=>?_) I.bare
 ·have e:b = it:=by simpa using hb
  subst e
  exact ⟨h1,hL,h2,h3⟩
 ·obtain ⟨o,es,ep,ho,r⟩:=hm
  exact ⟨o,es,ep,k _ o (Ne.symm hL) ho,r⟩
 ·refine (I.hok b u e).stay (fun c v hc q=>k c v ?_ q) (fun _ q=>q) fun _ _ q=>q
  rcases hc with z | z
  ·rw [z]; exact nit b u e
  ·exact nit c _ z
theorem aG.tok (I:aG X pins σ H s) (t:Nat):aG X pins σ H { s with toks:=t }:=I.un (h':=s.heap) (t':=t) Un.refl I.hok
theorem aG.kept {t':Nat} (I:aG X pins σ H s) (k:∀ b u,s.heap.get? b = some u → h'.get? b = some u):aG X pins σ H { s with heap:=h',toks:=t' }:=I.un (Un.kept k) (I.hok.kept k)
theorem aG.laid {a:Addr} {o:HO} {t':Nat} (I:aG X pins σ H s) (k:∀ b u,s.heap.get? b = some u → h'.get? b = some u) (hp:s.heap.objs.size ≤ a) (new:cg X.prog X.w (upd H a o) h' a o) :
  aG X pins σ (upd H a o) { s with heap:=h',toks:=t' }:=I.un (Un.laid k hp (I.hok.fresh hp)) (I.hok.laid k hp new)
theorem aG.write {x e:Addr} {o:HO} {t':Nat} (I:aG X pins σ H s) (mu:ID (H x)) (he:e = x ∨ H e = some (.own x)) (k:∀ b u,b ≠ e → s.heap.get? b = some u → h'.get? b = some u) (heo:∃ u,h'.get? e = some u)
  (new:cg X.prog X.w (upd H x o) h' x o):aG X pins σ (upd H x o) { s with heap:=h',toks:=t' }:=I.un (Un.write mu he k heo) (I.hok.write mu he k heo new)
theorem aG.weak {σ':List (Option V)} (I:aG X pins σ H s) (hl:σ'.length = σ.length) (w:∀ (i:Nat) v,σ'[i]? = some (some v) → σ[i]? = some (some v)):aG X pins σ' H s :=
 ⟨I.ok,I.os,I.bare,I.base,let ⟨m,hn,hl'⟩:=I.loc; ⟨m,hn,fun i x v e1 e2 e3=>hl' i x v e1 (w i v e2) e3⟩,I.cell,I.free,I.freeC,I.pin,I.hok,hl.trans I.len⟩
theorem aG.pins_of {pins':List (Addr × Obj)} (I:aG X pins σ H s) (h:∀ p ∈ pins',s.heap.get? p.1 = some p.2 ∧ H p.1 = none ∧ p.1 ≠ X.env.locals ∧ p.1 ∉ X.fs ∧ ∀ v,p.2.data ≠ .cell v):aG X pins' σ H s :=
 ⟨I.ok,I.os,I.bare,I.base,I.loc,I.cell,I.free,I.freeC,fun p hp=>(List.mem_append.mp hp).elim (fun z=>I.pin p (List.mem_append_left _ z)) (h p),I.hok,I.len⟩

theorem vf {N:List Str} (hN:N.Nodup) {i j:Nat} {x:Str} (a:N[i]? = some x) (b:N[j]? = some x):i = j:=by
 obtain ⟨h1,e1⟩:=List.getElem?_eq_some_iff.mp a
 obtain ⟨h2,e2⟩:=List.getElem?_eq_some_iff.mp b
 exact (List.getElem_inj hN).mp (e1.trans e2.symm)

theorem lE {M:Model} {i:Nat} {x:Str} {v:V} {u:Value} {Q:Unit → Shared → Prop} (I:aG X pins σ H s) (hN:X.N.Nodup) (hi:X.N[i]? = some x) (hx:eD X.env.scope x) (r:aO v u)
  (h:∀ s',aG X pins (σ.set i (some v)) H s' → (∃ a,Heap.SameBut a s.heap s'.heap ∧ (a = X.env.locals ∨ X.env.cells.lookup x = some a)) → Q () s') (hf:X.fn x = true ∨ X.env.scope.names.lookup x = some .local:=by with_unfolding_all (first | exact .inl rfl | exact .inr rfl | assumption)):wpAny M A (storeName X.env x u) Q E s:=by
 obtain ⟨m,hn,hl⟩:=id I.loc
 have hcls:(X.env.scope.kind == .class || (X.env.scope.kind == .module && X.env.locals != X.env.globals)) = false:=by rw [I.ok.kind]; rfl
 have hiσ:i < σ.length:=by rw [I.len]; exact (List.getElem?_eq_some_iff.mp hi).1
 have cne:=I.cne
 have tracked:∀ {a:Addr} {h':Heap},(∃ o,s.heap.get? a = some o ∧ H a = none) → Heap.SameBut a s.heap h' → iF X.prog X.w H h':=fun {a h'} ha hs b ob e=>by
  obtain ⟨_,_,hfree⟩:=ha
  refine (I.hok b ob e).stay (fun c w' hc q=>(hs.2 c ?_).trans q) (fun _ q=>q) fun _ _ q=>q
  rintro rfl
  rcases hc with rfl | hc
  ·rw [hfree] at e; cases e
  ·rw [hfree] at hc; cases hc
 rcases hx with hk | hk
 ·refine wpAny_storeName_local hk hn (fun h' hn' hs=>?_) hcls
  obtain ⟨oL,_,_,hoL,_⟩:=id hn
  refine h _ ⟨I.ok,I.os,I.bare,⟨fun b o e n hb hx=>?_,fun b o e n hb hx=>?_,I.base.free,fun b o e hx=>?_,I.base.tups,I.base.frzs,I.base.tbls⟩,⟨_,hn',fun j y v' e1 e2 e3=>?_⟩,fun y c e=>?_,I.free,I.freeC,fun p hp=>?_,tracked ⟨oL,hoL,I.free⟩ hs,by simpa using I.len⟩ ⟨_,hs,.inl rfl⟩
  ·exact (hs.2 b (Nat.ne_of_lt (Nat.lt_of_lt_of_le (Heap.lt_size e) I.ok.above))).trans (I.base.keep b o e n hb hx)
  ·obtain ⟨sl,e1⟩:=I.base.slot b o e n hb hx
   exact ⟨sl,(hs.2 b (Nat.ne_of_lt (Nat.lt_of_lt_of_le (Heap.lt_size e) I.ok.above))).trans e1⟩
  ·obtain ⟨o',e1⟩:=I.base.there b o e hx
   exact ⟨o',(hs.2 b (Nat.ne_of_lt (Nat.lt_of_lt_of_le (Heap.lt_size e) I.ok.above))).trans e1⟩
  ·by_cases hj:j = i
   ·subst hj
    rw [hi] at e1; cases e1
    rw [List.getElem?_set_self hiσ] at e2
    cases e2
    exact ⟨u,r,.inl ⟨hk,by simp⟩⟩
   ·rw [List.getElem?_set_ne (Ne.symm hj)] at e2
    obtain ⟨u',r',q⟩:=hl j y v' e1 e2 e3
    refine ⟨u',r',?_⟩
    rcases q with ⟨k,e⟩ | ⟨k,c,e,z⟩
    ·refine .inl ⟨k,?_⟩
     have:y ≠ x:=fun e=>hj (vf hN e1 (e ▸ hi))
     simp [this,e]
    ·exact .inr ⟨k,c,e,z.sameBut hs (cne y c e)⟩
  ·obtain ⟨w',z⟩:=I.cell y c e
   exact ⟨w',z.sameBut hs (cne y c e)⟩
  ·obtain ⟨e,n,ne,nf,d⟩:=I.pin p hp
   exact ⟨(hs.2 p.1 ne).trans e,n,ne,nf,d⟩
 ·have hfn:X.fn x = true:=by
   rcases hf with z | z
   ·exact z
   ·rw [z] at hk; cases hk
  obtain ⟨c,hc⟩:=I.ok.has x (.inl hk)
  obtain ⟨w',z⟩:=I.cell x c hc
  refine wpAny_storeName_cell I.ok.kind hk hc z (fun h' hc' hs=>?_)
  obtain ⟨oc,hoc,hocd⟩:=id z
  refine h { s with heap:=h' } ⟨I.ok,I.os,I.bare,⟨fun b o e n hb hx=>?_,fun b o e n hb hx=>?_,I.base.free,fun b o e hx=>?_,I.base.tups,I.base.frzs,I.base.tbls⟩,⟨m,hn.sameBut hs (Ne.symm (cne x c hc)),fun j y v' e1 e2 e3=>?_⟩,fun y c' e=>?_,I.free,I.freeC,fun p hp=>?_,tracked ⟨oc,hoc,I.freeC x c hc⟩ hs,by simpa using I.len⟩ ⟨c,hs,.inr hc⟩
  ·exact (hs.2 b (Nat.ne_of_lt (Nat.lt_of_lt_of_le (Heap.lt_size e) (I.ok.cab x c hfn hc)))).trans (I.base.keep b o e n hb hx)
  ·obtain ⟨sl,e1⟩:=I.base.slot b o e n hb hx
   exact ⟨sl,(hs.2 b (Nat.ne_of_lt (Nat.lt_of_lt_of_le (Heap.lt_size e) (I.ok.cab x c hfn hc)))).trans e1⟩
  ·obtain ⟨o',e1⟩:=I.base.there b o e hx
   exact ⟨o',(hs.2 b (Nat.ne_of_lt (Nat.lt_of_lt_of_le (Heap.lt_size e) (I.ok.cab x c hfn hc)))).trans e1⟩
  ·by_cases hj:j = i
   ·subst hj
    rw [hi] at e1; cases e1
    rw [List.getElem?_set_self hiσ] at e2
    cases e2
    exact ⟨u,r,.inr ⟨.inl hk,c,hc,hc'⟩⟩
   ·rw [List.getElem?_set_ne (Ne.symm hj)] at e2
    obtain ⟨u',r',q⟩:=hl j y v' e1 e2 e3
    refine ⟨u',r',?_⟩
    rcases q with q | ⟨k,c',e,z'⟩
    ·exact .inl q
    ·refine .inr ⟨k,c',e,z'.sameBut hs ?_⟩
     rintro rfl
     exact hj (vf hN e1 (I.ok.inj _ _ _ e hc ▸ hi))
  ·by_cases hcc:c' = c
   ·subst hcc; exact ⟨_,hc'⟩
   ·obtain ⟨w2,z2⟩:=I.cell y c' e
    exact ⟨w2,z2.sameBut hs hcc⟩
  ·obtain ⟨e,n,ne,nf,d⟩:=I.pin p hp
   refine ⟨(hs.2 p.1 ?_).trans e,n,ne,nf,d⟩
   intro q
   rw [q,hoc] at e
   have q':oc = p.2:=Option.some.inj e
   exact d w' (by rw [← q']; exact hocd)
theorem iG {M:Model} {i:Nat} {x:Str} {v:V} {u:Value} {Q:Unit → Shared → Prop} (I:aG X pins σ H s) (hN:X.N.Nodup) (hi:X.N[i]? = some x) (hx:eD X.env.scope x) (r:aO v u)
  (h:∀ s',aG X pins (σ.set i (some v)) H s' → Q () s') (hf:X.fn x = true ∨ X.env.scope.names.lookup x = some .local:=by with_unfolding_all (first | exact .inl rfl | exact .inr rfl | assumption)):wpAny M A (storeName X.env x u) Q E s :=
 lE I hN hi hx r (fun s' I' _=>h s' I') hf
theorem aG.call' {s':Shared} {ch:List Addr} (I:aG X pins σ H s) (ho:s'.os = s.os) (u:Un (vd X.stack) ch H H' s.heap s'.heap) (hok:iF X.prog X.w H' s'.heap) (hg:AllBare s'.gens)
  (hch:∀ b ∈ ch,(b ∈ X.ex ∨ X.s₀.heap.objs.size ≤ b) ∧ b ≠ X.env.locals ∧ (∀ x c,X.env.cells.lookup x = some c → c ≠ b) ∧ ∀ p ∈ X.pn ++ pins,p.1 ≠ b):aG X pins σ H' s':=by
 obtain ⟨h',g',d',t',o'⟩:=s'
 have e:o' = s.os:=ho
 subst e
 exact I.call (g':=g') (t':=t') (d':=d') u hok hg hch
end
abbrev XK:=Value → Option Addr → Hp → Prop
abbrev St:=List (Option V)
abbrev VK:=V → Hp → Prop
abbrev TE:=St → Hp → VK → Prop
abbrev TT:=St → Hp → (Bool → Hp → Prop) → Prop
abbrev TA:=St → Hp → (List V → Hp → Prop) → Prop
structure vg where
 nx:St → Hp → Prop
 rt:VK
 bk:St → Hp → Prop:=fun _ _=>False
 ct:St → Hp → Prop:=fun _ _=>False
abbrev TS:=vg → St → Hp → Prop

def EP (X:Cx) (pins:List (Addr × Obj)) (σ:St) (Q:VK) (u:Value) (s':Shared):Prop:=∃ v H',aG X pins σ H' s' ∧ aO v u ∧ Q v H'
def TP (X:Cx) (pins:List (Addr × Obj)) (σ:St) (Q:Bool → Hp → Prop) (b:Bool) (s':Shared):Prop:=∃ H',aG X pins σ H' s' ∧ Q b H'
def AP (X:Cx) (pins:List (Addr × Obj)) (σ:St) (Q:List V → Hp → Prop) (us:List Value) (s':Shared):Prop:=∃ vs H',aG X pins σ H' s' ∧ aN vs us ∧ Q vs H'
def SP (X:Cx) (pins:List (Addr × Obj)) (D:vg) (f:Flow) (s':Shared):Prop :=
 match f with
 | .next=>∃ σ' H',aG X pins σ' H' s' ∧ D.nx σ' H'
 | .brk=>∃ σ' H',aG X pins σ' H' s' ∧ D.bk σ' H'
 | .cont=>∃ σ' H',aG X pins σ' H' s' ∧ D.ct σ' H'
 | .ret u=>∃ v σ' H',aG X pins σ' H' s' ∧ aO v u ∧ D.rt v H'

def PE (X:Cx) (e:Expr) (t:TE):Prop :=
 ∀ (pins:List (Addr × Obj)) (s:Shared) (σ:St) (H:Hp) (Q:VK),aG X pins σ H s → t σ H Q → wpAny (model X.prog X.w) X.A (eval e X.env) (EP X pins σ Q) X.xe s
def PT (X:Cx) (e:Expr) (t:TT):Prop :=
 ∀ (pins:List (Addr × Obj)) (s:Shared) (σ:St) (H:Hp) (Q:Bool → Hp → Prop),aG X pins σ H s → t σ H Q → wpAny (model X.prog X.w) X.A (isTrue e X.env (eval e X.env)) (TP X pins σ Q) X.xe s
def PW (X:Cx) (e:Expr) (t:TT):Prop :=
 ∀ (whole:Sem Value) (pins:List (Addr × Obj)) (s:Shared) (σ:St) (H:Hp) (Q:Bool → Hp → Prop),aG X pins σ H s → t σ H Q → wpAny (model X.prog X.w) X.A (isTrue e X.env whole) (TP X pins σ Q) X.xe s
theorem PW.pt {X:Cx} {e:Expr} {t:TT} (h:PW X e t):PT X e t:=h _
def PA (X:Cx) (es:List Expr) (t:TA):Prop :=
 ∀ (pos:Pos) (pins:List (Addr × Obj)) (s:Shared) (σ:St) (H:Hp) (Q:List V → Hp → Prop),aG X pins σ H s → t σ H Q → wpAny (model X.prog X.w) X.A (spliced (backTo pos (starEach es X.env))) (AP X pins σ Q) X.xe s
def PS (X:Cx) (st:Stmt) (t:TS):Prop :=
 ∀ (pins:List (Addr × Obj)) (s:Shared) (σ:St) (H:Hp) (D:vg),aG X pins σ H s → t D σ H → wpAny (model X.prog X.w) X.A (exec st X.env) (SP X pins D) X.xe s
def iz (X:Cx) (st:List Stmt) (t:TS):Prop :=
 ∀ (pins:List (Addr × Obj)) (s:Shared) (σ:St) (H:Hp) (D:vg),aG X pins σ H s → t D σ H → wpAny (model X.prog X.w) X.A (execs st X.env) (SP X pins D) X.xe s
theorem bw {α:Type} {t:Sem α} {Q Q':α → Shared → Prop} {M:Model} (h:wpAny M A t Q E s) (hQ:∀ a s,Q a s → Q' a s):wpAny M A t Q' E s:=wpAny_mono h hQ fun _ _ x=>x
section
variable {X:Cx}
theorem Ld {a b:Expr} {ta tb:TE} (ha:PE X a ta) (hb:PE X b tb) {σ:St} {H:Hp} {R:V → V → Hp → Prop} (I:aG X pins σ H s) (h:ta σ H fun x H1=>tb σ H1 fun y H2=>R x y H2)
  {α:Type} {Q:α → Shared → Prop} {f:Value → Value → Sem α}
  (hf:∀ v u s2 x y H2,aG X pins σ H2 s2 → aO x v → aO y u → R x y H2 → wpAny (model X.prog X.w) X.A (f v u) Q X.xe s2) :
  wpAny (model X.prog X.w) X.A (eval a X.env) (fun v s₁=>wpAny (model X.prog X.w) X.A (eval b X.env) (fun u s₂=>wpAny (model X.prog X.w) X.A (f v u) Q X.xe s₂) X.xe s₁) X.xe s:=by
 refine bw (ha pins s σ H _ I h) fun v s1 ⟨x,H1,I1,r1,q1⟩=>?_
 refine bw (hb pins s1 σ H1 _ I1 q1) fun u s2 ⟨y,H2,I2,r2,q2⟩=>?_
 exact hf v u s2 x y H2 I2 r1 r2 q2

def Bb (i:Nat):TE:=fun σ H Q=>∃ v,σ[i]? = some (some v) ∧ Q v H
def tC (v:V):TE:=fun _ H Q=>Q v H
theorem Gs {i:Nat} {x:Str} (hN:X.N[i]? = some x) (hv:IE X.env.scope x) (hd:(x == ("__debug__":Str)) = false:=by decide) (hcd:(x == ("__classdict__":Str)) = false:=by decide):PE X (.Name x pos) (Bb i):=by
 intro pins s σ H Q I h
 obtain ⟨v,e,h⟩:=h
 obtain ⟨m,hn,hl⟩:=I.loc
 obtain ⟨u,r,l⟩:=hl i x v hN e hv
 have fin:EP X pins σ Q u s:=⟨v,H,I,r,h⟩
 rcases l with ⟨hk,hm⟩ | ⟨hk,c,hc,hcell⟩
 ·exact wpAny_Name (wpAny_loadName_local I.ok.kind hk hn hm fin) hd
 ·rcases hk with hk | hk
  ·exact wpAny_Name (wpAny_loadName_cell I.ok.kind hk hc hcell fin) hd
  ·exact wpAny_Name (wpAny_loadName_free I.ok.kind hk hc hcell fin hcd) hd
theorem cT {i j pos}:PE X (.Constant (.int i) j pos) (tC (.int i)):=fun _ _ _ H _ I h=>wpAny_Constant_int ⟨.int i,H,I.tok _,⟨_,rfl⟩,h⟩
theorem IF {b j pos}:PE X (.Constant (.bool b) j pos) (tC (.bl b)):=fun _ _ _ H _ I h=>Constant_bool ⟨.bl b,H,I,rfl,h⟩
theorem Gt {j pos}:PE X (.Constant .none j pos) (tC .non):=fun _ _ _ H _ I h=>Constant_none ⟨.non,H,I,rfl,h⟩
theorem gT {x j pos}:PE X (.Constant (.str x) j pos) (tC (.str x)):=fun _ _ _ H _ I h=>Calls.Constant_str ⟨.str x,H,I.tok _,⟨_,rfl⟩,h⟩

def Gl (X:Cx) (x:Str):Prop:=X.env.kindOf x = some .globalImplicit
theorem gU {σ:St} {H:Hp} {x:Str} {u:Value} {Q:Value → Shared → Prop} (I:aG X pins σ H s) (hg:Gl X x) (hm:X.mg x = some u) (h:Q u s)
  (hd:(x == ("__debug__":Str)) = false:=by decide):wpAny (model X.prog X.w) X.A (eval (.Name x pos) X.env) Q E s :=
 Calls.Name_function_global I.ok.kind hg (Calls.loadGlobal_global (by rw [I.ok.glob]; exact I.mod.glob.keeps I.bk) hm h) hd
theorem lF {σ:St} {H:Hp} {x:Str} {u:Value} {Q:Value → Shared → Prop} (I:aG X pins σ H s) (hg:Gl X x) (hm:X.mg x = none) (hv:bootBuiltins x = some u) (h:Q u s)
  (hn:x ≠ "__name__":=by decide) (hd:(x == ("__debug__":Str)) = false:=by decide):wpAny (model X.prog X.w) X.A (eval (.Name x pos) X.env) Q E s:=by
 obtain ⟨mb,h1,h2⟩:=I.mod.blt
 exact Calls.Name_function_global I.ok.kind hg (Calls.loadGlobal_builtin (by rw [I.ok.glob]; exact I.mod.glob.keeps I.bk) hm (by rw [I.ok.blt]; exact h1.keeps I.bk) ((h2 x hn).trans hv) h) hd
theorem Ec {x:Str} {v:V} {u:Value} (hg:Gl X x) (hm:X.mg x = some u) (r:aO v u) (hd:(x == ("__debug__":Str)) = false:=by decide):PE X (.Name x pos) (tC v) :=
 fun _ _ _ H _ I h=>gU I hg hm ⟨v,H,I,r,h⟩ hd
theorem tf {x:Str} {v:V} {u:Value} (hg:Gl X x) (hm:X.mg x = none) (hv:bootBuiltins x = some u) (r:aO v u) (hn:x ≠ "__name__":=by decide) (hd:(x == ("__debug__":Str)) = false:=by decide):PE X (.Name x pos) (tC v) :=
 fun _ _ _ H _ I h=>lF I hg hm hv ⟨v,H,I,r,h⟩ hn hd

variable {a b:Expr} {ta tb:TE}
def PC (X:Cx) (op:CmpOp) (a b:Expr) (t:TE):Prop :=
 ∀ (pins:List (Addr × Obj)) (s:Shared) (σ:St) (H:Hp) (Q:VK),aG X pins σ H s → t σ H Q →
  wpAny (model X.prog X.w) X.A (eval a X.env) (fun v s₁=>wpAny (model X.prog X.w) X.A (eval b X.env) (fun u s₂=>wpAny (model X.prog X.w) X.A (compareOp op v u) (EP X pins σ Q) X.xe s₂) X.xe s₁) X.xe s
theorem vh (b:Expr) {op:CmpOp} (h:op ≠ .In) (h2:op ≠ .NotIn):behindInMarks op b = false:=by
 have e1:(op == CmpOp.In) = false:=by cases op <;> first | rfl | exact absurd rfl h
 have e2:(op == CmpOp.NotIn) = false:=by cases op <;> first | rfl | exact absurd rfl h2
 cases b <;> simp [behindInMarks,e1,e2]
def Ed (ta:TE):TE:=fun σ H Q=>ta σ H fun x H1=>Q (.bl (decide (x = .non))) H1
def Bc (ta:TE):TE:=fun σ H Q=>ta σ H fun x H1=>Q (.bl (!decide (x = .non))) H1
theorem aO.none_iff {x:V} {v:Value} (r:aO x v):(v == Value.none) = decide (x = .non):=by
 cases x with
 | non=>cases r; rfl
 | bl _=>cases r; rfl
 | int _=>obtain ⟨t,rfl⟩:=r; rfl
 | str _=>obtain ⟨t,rfl⟩:=r; rfl
 | byt _=>obtain ⟨t,rfl⟩:=r; rfl
 | flt _=>obtain ⟨t,rfl⟩:=r; rfl
 | ref _=>cases r; rfl
 | ty _=>cases r; rfl
theorem cU {j pos'} (ha:PE X a ta):PC X .Is a (.Constant .none j pos') (Ed ta):=by
 intro pins s σ H Q I h
 refine bw (ha pins s σ H _ I h) fun v s1 ⟨x,H1,I1,r1,q1⟩=>?_
 exact Constant_none (is_none_gen ⟨.bl _,H1,I1,by rw [r1.none_iff]; rfl,q1⟩)
theorem yh {j pos'} (ha:PE X a ta):PC X .IsNot a (.Constant .none j pos') (Bc ta):=by
 intro pins s σ H Q I h
 refine bw (ha pins s σ H _ I h) fun v s1 ⟨x,H1,I1,r1,q1⟩=>?_
 exact Constant_none (isnot_none_gen ⟨.bl _,H1,I1,by rw [r1.none_iff]; rfl,q1⟩)
def tB (t:TE):TT:=fun σ H Q=>t σ H fun x H1=>∃ c,x = .bl c ∧ Q c H1
theorem oh {op:CmpOp} {t:TE} (h:PC X op a b t) (h1:behindInMarks op b = false:=by with_unfolding_all (first | exact vh _ (by decide) (by decide) | rfl)):PE X (.Compare a [op] [b] pos) t:=fun pins s σ H Q I hw=>wpAny_Compare1 (h pins s σ H Q I hw) h1
theorem cV {op:CmpOp} {t:TE} (h:PC X op a b t) (h1:behindInMarks op b = false:=by with_unfolding_all (first | exact vh _ (by decide) (by decide) | rfl)):PT X (.Compare a [op] [b] pos) (tB t):=by
 intro pins s σ H Q I hw
 refine wpAny_isTrue_Compare1 (bw (h pins s σ H _ I hw) fun v s1 h1=>bw h1 fun u s2 h2=>bw h2 fun c s3 ⟨x,H1,I1,r1,q1⟩=>?_) h1
 obtain ⟨d,rfl,q⟩:=q1
 cases r1
 exact wpAny_truthy_bool ⟨H1,I1,q⟩
theorem Gu {e:Expr} {t:TE} (h:PE X e t) (he:∀ whole,isTrue e X.env whole = (do let v ← whole; standAt e.pos; holding [v] (truthy v)):=by with_unfolding_all (intro _; rfl)):PT X e (tB t):=by
 intro pins s σ H Q I hw
 refine isTrue_plain (bw (h pins s σ H _ I hw) fun v s1 ⟨x,H1,I1,r1,q1⟩=>?_) (he _)
 obtain ⟨d,rfl,q⟩:=q1
 cases r1
 exact wpAny_truthy_bool ⟨H1,I1,q⟩

variable {tA tB':TT} {rest:List Expr}
def IG (t u:TT):TT:=fun σ H Q=>t σ H fun c H1=>if c = true then u σ H1 Q else Q false H1
def KN (t u:TT):TT:=fun σ H Q=>t σ H fun c H1=>if c = true then Q true H1 else u σ H1 Q
def J3 (t:TT):TT:=fun σ H Q=>t σ H fun c H1=>Q (!c) H1
theorem Ee (ha:PT X a tA):PW X (.BoolOp .And [a] pos) tA:=by
 intro wh pins s σ H Q I h
 refine isTrue_and (bw (ha pins s σ H Q I h) fun c s1 e=>?_)
 cases c with
 | true=>exact isTrue_and_nil e
 | false=>exact e
theorem Gv (ha:PT X a tA):PW X (.BoolOp .Or [a] pos) tA:=by
 intro wh pins s σ H Q I h
 refine isTrue_or (bw (ha pins s σ H Q I h) fun c s1 e=>?_)
 cases c with
 | false=>exact isTrue_or_nil e
 | true=>exact e
theorem Gw (ha:PT X a tA) (hb:PW X (.BoolOp .And (b :: rest) pos) tB'):PW X (.BoolOp .And (a :: b :: rest) pos) (IG tA tB'):=by
 intro wh pins s σ H Q I h
 refine isTrue_and (bw (ha pins s σ H _ I h) fun c s1 ⟨H1,I1,q1⟩=>?_)
 cases c with
 | true=>exact hb wh pins s1 σ H1 Q I1 q1
 | false=>exact ⟨H1,I1,q1⟩
theorem IH (ha:PT X a tA) (hb:PW X (.BoolOp .Or (b :: rest) pos) tB'):PW X (.BoolOp .Or (a :: b :: rest) pos) (KN tA tB'):=by
 intro wh pins s σ H Q I h
 refine isTrue_or (bw (ha pins s σ H _ I h) fun c s1 ⟨H1,I1,q1⟩=>?_)
 cases c with
 | true=>exact ⟨H1,I1,q1⟩
 | false=>exact hb wh pins s1 σ H1 Q I1 q1
theorem Gz (ha:PT X a tA):PT X (.UnaryOp .Not a pos) (J3 tA):=by
 intro pins s σ H Q I h
 exact isTrue_not (ha pins s σ H (fun c H1=>Q (!c) H1) I h)
def II (ta tb:TE):TE:=fun σ H Q=>ta σ H fun x H1=>∃ c,x = .bl c ∧ if c = true then tb σ H1 Q else Q (.bl false) H1
def J4 (ta tb:TE):TE:=fun σ H Q=>ta σ H fun x H1=>∃ c,x = .bl c ∧ if c = true then Q (.bl true) H1 else tb σ H1 Q
def IJ (ta:TE):TE:=fun σ H Q=>ta σ H fun x H1=>∃ c,x = .bl c ∧ Q (.bl (!c)) H1
theorem GA {op} {t:TE} (h:PE X a t):PE X (.BoolOp op [a] pos) t:=fun pins s σ H Q I hw=>BoolOp_one (h pins s σ H Q I hw)
theorem GB (ha:PE X a ta) (hb:PE X (.BoolOp .And (b :: rest) pos) tb):PE X (.BoolOp .And (a :: b :: rest) pos) (II ta tb):=by
 intro pins s σ H Q I h
 refine BoolOp_and (bw (ha pins s σ H _ I h) fun v s1 ⟨x,H1,I1,r1,q1⟩=>?_)
 obtain ⟨c,rfl,q1⟩:=q1
 cases r1
 refine wpAny_truthy_bool ?_
 cases c with
 | true=>exact hb pins s1 σ H1 Q I1 q1
 | false=>exact ⟨.bl false,H1,I1,rfl,q1⟩
theorem IK (ha:PE X a ta) (hb:PE X (.BoolOp .Or (b :: rest) pos) tb):PE X (.BoolOp .Or (a :: b :: rest) pos) (J4 ta tb):=by
 intro pins s σ H Q I h
 refine BoolOp_or (bw (ha pins s σ H _ I h) fun v s1 ⟨x,H1,I1,r1,q1⟩=>?_)
 obtain ⟨c,rfl,q1⟩:=q1
 cases r1
 refine wpAny_truthy_bool ?_
 cases c with
 | false=>exact hb pins s1 σ H1 Q I1 q1
 | true=>exact ⟨.bl true,H1,I1,rfl,q1⟩
theorem GC (ha:PE X a ta):PE X (.UnaryOp .Not a pos) (IJ ta):=by
 intro pins s σ H Q I h
 refine UnaryOp_ (bw (ha pins s σ H _ I h) fun v s1 ⟨x,H1,I1,r1,q1⟩=>?_)
 obtain ⟨c,rfl,q1⟩:=q1
 cases r1
 exact not_of (wpAny_truthy_bool ⟨.bl (!c),H1,I1,rfl,q1⟩)
def KO (t:TT) (ta tb:TE):TE:=fun σ H Q=>t σ H fun c H1=>if c = true then ta σ H1 Q else tb σ H1 Q
theorem oi {c:Expr} (hc:PT X c tA) (ha:PE X a ta) (hb:PE X b tb):PE X (.IfExp c a b pos) (KO tA ta tb):=by
 intro pins s σ H Q I h
 refine wpAny_IfExp (bw (hc pins s σ H _ I h) fun d s1 ⟨H1,I1,q1⟩=>?_)
 cases d with
 | true=>exact ha pins s1 σ H1 Q I1 q1
 | false=>exact hb pins s1 σ H1 Q I1 q1
end
def fu (K:PySem.W.Frag) (H:Hp) (a:Addr) (xs:List V):Prop :=
 Rd H a (.lst xs) ∨
  ∃ (o:Obj) (its:Array Value) (n:Nat),K.lookup a = some o ∧ o.cls = .type "list" ∧ o.dict = none ∧ o.data = .seq its n ∧ its.size ≤ sizeLine ∧ aN xs its.toList
def fh (K:PySem.W.Frag) (H:Hp) (a:Addr) (xs:List V):Prop :=
 Rd H a (.tup xs) ∨
  ∃ (o:Obj) (its:Array Value) (n:Nat),K.lookup a = some o ∧ o.cls = .type "tuple" ∧ o.data = .seq its n ∧ its.size ≤ sizeLine ∧ aN xs its.toList
def J5:Value → Option V
 | .none=>some .non
 | .bool b=>some (.bl b)
 | .int i _=>some (.int i)
 | .str x _=>some (.str x)
 | .bytes b _=>some (.byt b)
 | .float b _=>some (.flt b)
 | .ref a=>some (.ref a)
 | .type n=>some (.ty n)
 | _=>none
theorem aO.abs {x:V} {u:Value} (r:aO x u):J5 u = some x:=by
 cases x with
 | non=>cases r; rfl
 | bl _=>cases r; rfl
 | int _=>obtain ⟨t,rfl⟩:=r; rfl
 | str _=>obtain ⟨t,rfl⟩:=r; rfl
 | byt _=>obtain ⟨t,rfl⟩:=r; rfl
 | flt _=>obtain ⟨t,rfl⟩:=r; rfl
 | ref _=>cases r; rfl
 | ty _=>cases r; rfl
theorem aO.inj {x y:V} {u:Value} (r:aO x u) (q:aO y u):x = y:=Option.some.inj (r.abs.symm.trans q.abs)
theorem aN.inj:∀ {xs ys:List V} {us:List Value},aN xs us → aN ys us → xs = ys
 | _,_,_,.nil,.nil=>rfl
 | _,_,_,.cons r t,.cons r' t'=>by rw [r.inj r',aN.inj t t']
section
variable {X:Cx} {σ:St} {H:Hp} {a:Addr} {xs ys:List V}
theorem fu.of (h:H a = some (.lst xs)):fu K H a xs:=.inl (.inl h)
theorem fh.of (h:H a = some (.tup xs)):fh K H a xs:=.inl (.inl h)
theorem aG.list (I:aG X pins σ H s) (h:fu X.K H a xs):∃ its:List Value,aN xs its ∧ PlainL s.heap a its.toArray ∧ xs.length ≤ sizeLine:=by
 rcases h with h | ⟨o,its,n,hk,hc,hd,hs,hz,r⟩
 ·obtain ⟨z,its,n,r,e⟩:=h.ok I.hok
  exact ⟨its,r,⟨_,n,e,rfl,rfl,rfl⟩,z⟩
 ·refine ⟨its.toList,r,⟨o,n,I.kIn a o hk,hc,hd,by simpa using hs⟩,?_⟩
  have e:=r.length
  simp only [Array.length_toList] at e
  omega
theorem aG.tuple (I:aG X pins σ H s) (h:fh X.K H a xs):∃ its:List Value,aN xs its ∧ IsTup s.heap a its.toArray ∧ xs.length ≤ sizeLine:=by
 rcases h with h | ⟨o,its,n,hk,hc,hs,hz,r⟩
 ·obtain ⟨z,its,r,p⟩:=h.ok I.hok
  exact ⟨its,r,p,z⟩
 ·refine ⟨its.toList,r,⟨o,I.kIn a o hk,hc,n,by simpa using hs⟩,?_⟩
  have e:=r.length
  simp only [Array.length_toList] at e
  omega
theorem aG.list_inj (I:aG X pins σ H s) (h:fu X.K H a xs) (h':fu X.K H a ys):xs = ys:=by
 obtain ⟨its,r,⟨o,n,e,_,_,d⟩,_⟩:=I.list h
 obtain ⟨its',r',⟨o',n',e',_,_,d'⟩,_⟩:=I.list h'
 rw [e] at e'; cases e'
 rw [d] at d'
 injection d' with d1 _
 have:its = its':=by simpa using congrArg Array.toList d1
 subst this
 exact r.inj r'
theorem aG.tuple_inj (I:aG X pins σ H s) (h:fh X.K H a xs) (h':fh X.K H a ys):xs = ys:=by
 obtain ⟨its,r,⟨o,e,_,n,d⟩,_⟩:=I.tuple h
 obtain ⟨its',r',⟨o',e',_,n',d'⟩,_⟩:=I.tuple h'
 rw [e] at e'; cases e'
 rw [d] at d'
 injection d' with d1 _
 have:its = its':=by simpa using congrArg Array.toList d1
 subst this
 exact r.inj r'
end
abbrev Cx.wish (X:Cx) (E:Value → Shared → Prop):Cx:={ X with xe:=E }
abbrev Cx.nox (X:Cx):Cx:=X.wish fun _ _=>False
theorem Cx.Ok.wish {X:Cx} (ok:X.Ok) (E:Value → Shared → Prop):(X.wish E).Ok :=
 ⟨ok.mod,ok.kind,ok.glob,ok.blt,ok.above,ok.inj,ok.has,ok.cab,ok.hd,ok.frames,ok.stk,ok.exf,ok.bs,ok.bsz,ok.noex,ok.exfs,ok.funs,ok.frf⟩
theorem Cx.Ok.unwish {X:Cx} (ok:(X.wish E).Ok):X.Ok :=
 ⟨ok.mod,ok.kind,ok.glob,ok.blt,ok.above,ok.inj,ok.has,ok.cab,ok.hd,ok.frames,ok.stk,ok.exf,ok.bs,ok.bsz,ok.noex,ok.exfs,ok.funs,ok.frf⟩
section
variable {X:Cx} {σ:St} {H:Hp}
theorem aG.wish (I:aG X pins σ H s) (E:Value → Shared → Prop):aG (X.wish E) pins σ H s:=⟨I.ok.wish E,I.os,I.bare,I.base,I.loc,I.cell,I.free,I.freeC,I.pin,I.hok,I.len⟩
theorem aG.unwish (I:aG (X.wish E) pins σ H s):aG X pins σ H s:=⟨I.ok.unwish,I.os,I.bare,I.base,I.loc,I.cell,I.free,I.freeC,I.pin,I.hok,I.len⟩
theorem SP.unwish {D:vg} {f:Flow} {s':Shared} (h:SP (X.wish E) pins D f s'):SP X pins D f s':=by
 cases f with
 | next=>obtain ⟨σ',H',I,q⟩:=h; exact ⟨σ',H',I.unwish,q⟩
 | brk=>obtain ⟨σ',H',I,q⟩:=h; exact ⟨σ',H',I.unwish,q⟩
 | cont=>obtain ⟨σ',H',I,q⟩:=h; exact ⟨σ',H',I.unwish,q⟩
 | ret u=>obtain ⟨v,σ',H',I,r,q⟩:=h; exact ⟨v,σ',H',I.unwish,r,q⟩
theorem iz.nox {st:List Stmt} {t:TS} (h:iz X.nox st t):iz X st t:=fun pins s σ H D I hw =>
 wpAny_mono (h pins s σ H D (I.wish _) hw) (fun _ _ q=>q.unwish) fun _ _ z=>False.elim z
end
section
variable {X:Cx} {rest:List Stmt} {t u:TS} {e:Expr} {te:TE}
def FM:TS:=fun D σ H=>D.nx σ H
def GD (t u:TS):TS:=fun D σ H=>t { D with nx:=u D } σ H
theorem yi:iz X [] FM:=fun _ _ σ H _ I h=>wpAny_execs_nil ⟨σ,H,I,h⟩
theorem dE (h1:PS X st t) (h2:iz X rest u):iz X (st :: rest) (GD t u):=by
 intro pins s σ H D I h
 refine wpAny_execs_cons (bw (h1 pins s σ H { D with nx:=u D } I h) fun f s1 q=>?_)
 cases f with
 | next =>
  obtain ⟨σ',H',I',q⟩:=q
  exact h2 pins s1 σ' H' D I' q
 | ret v=>exact q
 | brk=>exact q
 | cont=>exact q
theorem nJ (h1:PS X st t):iz X [st] t:=by
 intro pins s σ H D I h
 refine wpAny_execs_cons (bw (h1 pins s σ H D I h) fun f s1 q=>?_)
 cases f with
 | next=>exact wpAny_execs_nil q
 | ret v=>exact q
 | brk=>exact q
 | cont=>exact q
theorem aG.quiet {σ:St} {H:Hp} (I:aG X pins σ H s):interactive X.env = false:=by simp [interactive,I.ok.kind]
def IL (te:TE):TS:=fun D σ H=>te σ H fun _ H1=>D.nx σ H1
theorem Ef (he:PE X e te) (hs:swapsWith e none pos.line X.env = pure false:=by with_unfolding_all rfl):PS X (.Expr e pos) (IL te):=by
 intro pins s σ H D I h
 exact wpAny_Expr_any (bw (he pins s σ H _ I h) fun v s1 ⟨x,H1,I1,r1,q1⟩=>⟨σ,H1,I1,q1⟩) I.quiet hs
def IM (te:TE):TS:=fun D σ H=>te σ H D.rt
theorem tj (he:PE X e te):PS X (.Return (some e) pos) (IM te):=by
 intro pins s σ H D I h
 exact wpAny_Return_some (bw (he pins s σ H _ I h) fun v s1 ⟨x,H1,I1,r1,q1⟩=>⟨x,σ,H1,I1,r1,q1⟩)
def IN:TS:=fun D _ H=>D.rt .non H
theorem Eg:PS X (.Return none pos) IN:=fun _ _ σ H _ I h=>wpAny_Return_none ⟨.non,σ,H,I,rfl,h⟩
def IO (c:TT) (t u:TS):TS:=fun D σ H=>c σ H fun b H1=>if b = true then t D σ H1 else u D σ H1
theorem FN {c:Expr} {a b:List Stmt} {tc:TT} (hc:PT X c tc) (ha:iz X a t) (hb:iz X b u):PS X (.If c a b pos) (IO tc t u):=by
 intro pins s σ H D I h
 refine wpAny_If (bw (hc pins s σ H _ I h) fun d s1 ⟨H1,I1,q1⟩=>?_)
 cases d with
 | true=>exact ha pins s1 σ H1 D I1 q1
 | false=>exact hb pins s1 σ H1 D I1 q1
def GE:TS:=fun _ _ _=>False
theorem Be:PS X st GE:=fun _ _ _ _ _ _ h=>h.elim
end
abbrev TG:=V → St → Hp → (St → Hp → Prop) → Prop
abbrev Bf:=List V → St → Hp → (St → Hp → Prop) → Prop
def PG (X:Cx) (target:Expr) (t:TG):Prop :=
 ∀ (pins:List (Addr × Obj)) (s:Shared) (σ:St) (H:Hp) (v:V) (u:Value) (Q:St → Hp → Prop),aG X pins σ H s → aO v u → t v σ H Q →
  wpAny (model X.prog X.w) X.A (assign target X.env u) (fun _ s'=>∃ σ' H',aG X pins σ' H' s' ∧ Q σ' H') X.xe s
def yj (X:Cx) (ts:List Expr) (t:Bf):Prop :=
 ∀ (pins:List (Addr × Obj)) (s:Shared) (σ:St) (H:Hp) (vs:List V) (us:List Value) (Q:St → Hp → Prop),aG X pins σ H s → aN vs us → t vs σ H Q →
  wpAny (model X.prog X.w) X.A (assignInOrder ((assignEach ts X.env).map (·.2)) us) (fun _ s'=>∃ σ' H',aG X pins σ' H' s' ∧ Q σ' H') X.xe s
abbrev GF:=V → V → V → Hp → (Hp → Prop) → Prop
def IP (X:Cx) (t:GF):Prop :=
 ∀ (pins:List (Addr × Obj)) (s:Shared) (σ:St) (H:Hp) (o i v:V) (ov iv u:Value) (Q:Hp → Prop),aG X pins σ H s → aO o ov → aO i iv → aO v u → t o i v H Q →
  wpAny (model X.prog X.w) X.A (setItem ov iv u) (fun _ s'=>∃ H',aG X pins σ H' s' ∧ Q H') X.xe s
abbrev IQ:=V → V → Hp → VK → Prop
def KP (X:Cx) (op:Operator) (t:IQ):Prop :=
 ∀ (pins:List (Addr × Obj)) (s:Shared) (σ:St) (H:Hp) (x y:V) (v u:Value) (Q:VK),aG X pins σ H s → aO x v → aO y u → t x y H Q →
  wpAny (model X.prog X.w) X.A (inplaceOp op v u) (EP X pins σ Q) X.xe s
section
variable {X:Cx}
def ig (i:Nat):TG:=fun v σ H Q=>Q (σ.set i (some v)) H
theorem Eh {i:Nat} {x:Str} (hN:X.N.Nodup) (hi:X.N[i]? = some x) (hx:eD X.env.scope x) (hf:X.fn x = true ∨ X.env.scope.names.lookup x = some .local:=by with_unfolding_all (first | exact .inl rfl | exact .inr rfl | assumption)):PG X (.Name x pos) (ig i):=by
 intro pins s σ H v u Q I r h
 exact wpAny_assign_Name (iG I hN hi hx r (fun s' I'=>⟨_,H,I',h⟩) hf)
def J6:Bf:=fun vs σ H Q=>vs = [] ∧ Q σ H
def IR (t:TG) (u:Bf):Bf:=fun vs σ H Q=>∃ v r,vs = v :: r ∧ t v σ H fun σ' H'=>u r σ' H' Q
theorem Ei:yj X [] J6:=by
 intro pins s σ H vs us Q I r h
 obtain ⟨e,h⟩:=h
 subst e
 cases r
 exact assignInOrder_nil ⟨σ,H,I,h⟩
theorem Bg {e:Expr} {t:TG} {u:Bf} (h1:PG X e t) (h2:yj X es u)
  (hs:(assignEach (e :: es) X.env).map (·.2) = assign e X.env :: (assignEach es X.env).map (·.2):=by with_unfolding_all rfl):yj X (e :: es) (IR t u):=by
 intro pins s σ H vs us Q I r h
 obtain ⟨v,vr,e1,h⟩:=h
 subst e1
 cases r with
 | cons r rr =>
  rw [hs]
  refine assignInOrder_cons (bw (h1 pins s σ H _ _ _ I r h) fun _ s1 ⟨σ1,H1,I1,q1⟩=>?_)
  exact h2 pins s1 σ1 H1 _ _ Q I1 rr q1
def J7 (K:PySem.W.Frag) (n:Nat) (t:Bf):TG:=fun v σ H Q=>∃ a xs,v = .ref a ∧ fh K H a xs ∧ xs.length = n ∧ t xs σ H Q
theorem GG {k:Nat} {t:Bf} {n:Nat} (hc:X.calm = true) (h:yj X es t)
  (hn:(assignEach es X.env).length = n:=by with_unfolding_all rfl) (hst:(assignEach es X.env).findIdx? (·.1) = none:=by with_unfolding_all rfl):PG X (.Tuple es k pos) (J7 X.K n t):=by
 intro pins s σ H v u Q I r hw
 obtain ⟨a,xs,e1,hq,hl,hw⟩:=hw
 subst e1
 cases r
 obtain ⟨its,rv,ht,hz⟩:=I.tuple hq
 refine assign_Tuple_tuple (I.ok.hd hc) ht (by simp [hn,← hl,rv.length]) hst fun h' hx=>?_
 have I1:aG X pins σ H { s with heap:=h' }:=I.kept (t':=s.toks) fun b o e=>hx b o (Nat.ne_of_lt (Heap.lt_size e)) e
 exact h pins _ σ H xs _ Q I1 (by simpa using rv) hw
def IS (to ti:TE) (t:GF):TG:=fun v σ H Q=>to σ H fun o H1=>ti σ H1 fun i H2=>t o i v H2 fun H3=>Q σ H3
theorem GH {o i:Expr} {to ti:TE} {t:GF} (ho:PE X o to) (hi:PE X i ti) (hs:IP X t)
  (ha:∀ v,assign (.Subscript o i pos) X.env v = (do
   let ov ← holding [v] (eval o X.env)
   let iv ← holding [v,ov] (eval i X.env)
   standAt pos
   holding [v,ov,iv] (setItem ov iv v)
   release [v,ov,iv] []):=by with_unfolding_all (intro _; rfl)):PG X (.Subscript o i pos) (IS to ti t):=by
 intro pins s σ H v u Q I r h
 rw [ha]
 refine wpAny_bind (wpAny_holding (bw (ho pins s σ H _ I h) fun ov s1 ⟨x,H1,I1,r1,q1⟩=>?_))
 refine wpAny_bind (wpAny_holding (bw (hi pins s1 σ H1 _ I1 q1) fun iv s2 ⟨y,H2,I2,r2,q2⟩=>?_))
 refine wpAny_bind (wpAny_standAt (wpAny_bind (wpAny_holding (bw (hs pins s2 σ H2 x y v ov iv u _ I2 r1 r2 r q2) fun _ s3 ⟨H3,I3,q3⟩=>?_))))
 exact wpAny_release ⟨σ,H3,I3,q3⟩
def ki (te:TE) (g:TG):TS:=fun D σ H=>te σ H fun x H1=>g x σ H1 D.nx
theorem dl {tg e:Expr} {te:TE} {g:TG} (he:PE X e te) (hg:PG X tg g) (hs:swapsWithSole [tg] e pos.line X.env = pure false:=by with_unfolding_all rfl) (hw:swappedStores [tg] e X.env = pure none:=by with_unfolding_all rfl)
  (h1:(assignEach [tg] X.env).map (·.2) = [assign tg X.env]:=by with_unfolding_all rfl):PS X (.Assign [tg] e pos) (ki te g):=by
 intro pins s σ H D I h
 refine wpAny_Assign_stores (bw (he pins s σ H _ I h) fun v s1 ⟨x,H1,I1,r1,q1⟩=>?_) hs hw
 rw [h1]
 exact bw (hg pins s1 σ H1 x v _ I1 r1 q1) fun _ s2 q=>q
theorem lG {i:Nat} {x:Str} {e:Expr} {te:TE} {pos':Pos} (hN:X.N.Nodup) (hi:X.N[i]? = some x) (hx:eD X.env.scope x) (he:PE X e te) (hs:swapsWith e (some (.Name x pos')) pos.line X.env = pure false:=by with_unfolding_all rfl) (hf:X.fn x = true ∨ X.env.scope.names.lookup x = some .local:=by with_unfolding_all (first | exact .inl rfl | exact .inr rfl | assumption)) :
  PS X (.Assign [.Name x pos'] e pos) (ki te (ig i)):=by
 intro pins s σ H D I h
 refine wpAny_Assign_Name (bw (he pins s σ H _ I h) fun v s1 ⟨y,H1,I1,r1,q1⟩=>?_) hs
 exact iG I1 hN hi hx r1 (fun s2 I2=>⟨_,H1,I2,q1⟩) hf
def IT (i j:Nat) (ta:TA):TS:=fun D σ H=>ta σ H fun vs H1=>∃ v w,vs = [v,w] ∧ D.nx ((σ.set i (some v)).set j (some w)) H1
theorem GI {i j:Nat} {x y:Str} {a b:Expr} {ta:TA} {px py pt:Pos} {kt k2 pt2} (hc:X.calm = true) (hN:X.N.Nodup) (hi:X.N[i]? = some x) (hj:X.N[j]? = some y) (hij:i ≠ j)
  (hx:X.env.scope.names.lookup x = some .local) (hy:X.env.scope.names.lookup y = some .local) (ha:PA X [a,b] ta)
  (hw:swappedStores [.Tuple [.Name x px,.Name y py] kt pt] (.Tuple [a,b] k2 pt2) X.env = pure (some [x,y]))
  (hs:swapsWithSole [.Tuple [.Name x px,.Name y py] kt pt] (.Tuple [a,b] k2 pt2) pos.line X.env = pure false:=by with_unfolding_all rfl) :
  PS X (.Assign [.Tuple [.Name x px,.Name y py] kt pt] (.Tuple [a,b] k2 pt2) pos) (IT i j ta):=by
 intro pins s σ H D I h
 rw [exec_Assign_arm]
 refine wpAny_bind (wpAny_standAt ?_)
 rw [hs]
 refine wpAny_bind (wpAny_pure ?_)
 rw [if_neg (by decide)]
 refine wpAny_bind (Tuple_ (bw (ha _ pins s σ H _ I h) fun us s1 ⟨vs,H1,I1,r1,q1⟩=>?_))
 obtain ⟨v,w,e1,q1⟩:=q1
 subst e1
 obtain ⟨u1,u2,rfl,rv,rw'⟩:∃ u1 u2,us = [u1,u2] ∧ aO v u1 ∧ aO w u2:=by
  cases r1 with
  | cons p q =>
   cases q with
   | cons p' q' =>
    cases q'
    exact ⟨_,_,rfl,p,p'⟩
 refine wpAny_newObj_type ?_ (by show 2 ≤ sizeLine; decide)
 have I2:aG X pins σ H1 { s1 with heap:=s1.heap.push { cls:=.type "tuple",data:=.seq [u1,u2].toArray } }:=I1.kept (t':=s1.toks) fun b o e=>Heap.get?_push_of_some _ e
 rw [hw]
 refine wpAny_bind (wpAny_pure ?_)
 show wpAny (model X.prog X.w) X.A (do rule "assign.swapped-stores"; let items ← unpackItems (.ref s1.heap.objs.size) 2 none; assignInOrder [fun v=>bindName X.env y v,fun v=>bindName X.env x v] items.reverse; pure Flow.next) _ _ _
 refine wpAny_bind (wpAny_rule (wpAny_bind (unpackItems_tuple (items:=#[u1,u2]) (I.ok.hd hc) (IsTup.new s1.heap _) fun h' hx'=>?_)))
 have I3:=I2.kept (h':=h') (t':=s1.toks) fun b o e=>hx' b o (Nat.ne_of_lt (Heap.lt_size e)) e
 show wpAny _ _ (assignInOrder [fun v=>bindName X.env y v,fun v=>bindName X.env x v] [u2,u1] >>= fun _=>pure Flow.next) _ _ _
 refine wpAny_bind (assignInOrder_cons (wpAny_bindName (iG I3 hN hj (.inl hy) rw' (fun s2 I4=>?_) (.inr hy))))
 refine assignInOrder_cons (wpAny_bindName (iG I4 hN hi (.inl hx) rv (fun s3 I5=>assignInOrder_nil (wpAny_pure ?_)) (.inr hx)))
 rw [List.set_comm _ _ (Ne.symm hij)] at I5
 exact ⟨_,H1,I5,q1⟩
def IU (i:Nat) (te:TE) (ti:IQ):TS:=fun D σ H=>∃ x,σ[i]? = some (some x) ∧ te σ H fun y H1=>ti x y H1 fun z H2=>D.nx (σ.set i (some z)) H2
theorem wQ {i:Nat} {x:Str} {e:Expr} {te:TE} {op:Operator} {ti:IQ} {pos':Pos} (hN:X.N.Nodup) (hi:X.N[i]? = some x) (hx:eD X.env.scope x) (he:PE X e te) (ho:KP X op ti) (hf:X.fn x = true ∨ X.env.scope.names.lookup x = some .local:=by with_unfolding_all (first | exact .inl rfl | exact .inr rfl | assumption)) :
  PS X (.AugAssign (.Name x pos') op e pos) (IU i te ti):=by
 intro pins s σ H D I h
 obtain ⟨v,e1,h⟩:=h
 obtain ⟨m,hn,hl⟩:=I.loc
 have vis:IE X.env.scope x:=by rcases hx with k | k; exact .inl k; exact .inr (.inl k)
 obtain ⟨u,r,l⟩:=hl i x v hi e1 vis
 refine wpAny_AugAssign_Name ?_
 have go:wpAny (model X.prog X.w) X.A (eval e X.env) (fun w s₂=>wpAny (model X.prog X.w) X.A (inplaceOp op u w) (fun r s₃=>wpAny (model X.prog X.w) X.A (storeName X.env x r) (fun _=>SP X pins D .next) X.xe s₃) X.xe s₂) X.xe s:=by
  refine bw (he pins s σ H _ I h) fun w s1 ⟨y,H1,I1,r1,q1⟩=>?_
  refine bw (ho pins s1 σ H1 v y u w _ I1 r r1 q1) fun z s2 ⟨zv,H2,I2,r2,q2⟩=>?_
  exact iG I2 hN hi hx r2 (fun s3 I3=>⟨_,H2,I3,q2⟩) hf
 rcases l with ⟨hk,hm⟩ | ⟨hk,c,hc,hcell⟩
 ·exact wpAny_loadName_local I.ok.kind hk hn hm go
 ·rcases hk with hk | hk
  ·exact wpAny_loadName_cell I.ok.kind hk hc hcell go
  ·rcases hx with k | k
   ·have:X.env.scope.names.lookup x = some .free:=hk
    rw [k] at this; cases this
   ·have:X.env.scope.names.lookup x = some .free:=hk
    rw [k] at this; cases this
def KQ (f:Int → Int → Int):IQ:=fun x y H Q=>∃ i j,x = .int i ∧ y = .int j ∧ Q (.int (f i j)) H
theorem wR:KP X .Add (KQ fun i j=>i + j):=by
 intro pins s σ H x y v u Q I r1 r2 h
 obtain ⟨i,j,e1,e2,q⟩:=h
 subst e1; subst e2
 obtain ⟨t,rfl⟩:=r1
 obtain ⟨t',rfl⟩:=r2
 exact iadd_int ⟨.int _,H,I.tok _,⟨_,rfl⟩,q⟩
end
section
variable {X:Cx}
def Bh (c:TT) (tb:TS):TS:=fun D σ H=>∃ W:Nat → St → Hp → Prop,(∃ m,W m σ H) ∧ ∀ m σ H,W m σ H →
 c σ H fun b H1=>if b = true then ∃ N:St → Hp → Prop,(∀ σ' H',N σ' H' → ∃ m',m' < m ∧ W m' σ' H') ∧ tb { D with nx:=N,ct:=N,bk:=D.nx } σ H1 else D.nx σ H1
theorem Bi {c:Expr} {body:List Stmt} {tc:TT} {tb:TS} (hp:PassesOwn (model X.prog X.w) X.A X.env X.xe) (hc:PT X c tc) (hb:iz X body tb):PS X (.While c body [] pos) (Bh tc tb):=by
 intro pins s σ H D I h
 obtain ⟨W,⟨m0,w0⟩,turn⟩:=h
 refine wpAny_While (codeAny_whileLoop (fun n s'=>∃ σ' H',aG X pins σ' H' s' ∧ W n σ' H') ?_ m0 ⟨σ,H,I,w0⟩)
 rintro n s1 ⟨σ1,H1,I1,w1⟩
 refine wpAny_passesOwn hp (bw (hc pins s1 σ1 H1 _ I1 (turn n σ1 H1 w1)) fun b s2 ⟨H2,I2,q2⟩=>?_)
 cases b with
 | true =>
  obtain ⟨N,hN,q2⟩:=q2
  rw [if_pos rfl]
  refine wpAny_passesOwn hp (bw (hb pins s2 σ1 H2 _ I2 q2) fun f s3 q3=>?_)
  cases f with
  | next =>
   obtain ⟨σ3,H3,I3,n3⟩:=q3
   obtain ⟨m',hm,w3⟩:=hN σ3 H3 n3
   exact ⟨m',hm,σ3,H3,I3,w3⟩
  | cont =>
   obtain ⟨σ3,H3,I3,n3⟩:=q3
   obtain ⟨m',hm,w3⟩:=hN σ3 H3 n3
   exact ⟨m',hm,σ3,H3,I3,w3⟩
  | brk=>exact q3
  | ret v=>exact q3
 | false =>
  rw [if_neg Bool.false_ne_true]
  exact wpAny_execs_nil ⟨σ1,H2,I2,q2⟩
end
structure It where
 go:Nat → Hp → Prop
 yld:Nat → Hp → V → Hp → Prop
 stop:Nat → Hp → Prop
def d6 (X:Cx) (pins:List (Addr × Obj)) (H:Hp) (b:Addr):Prop :=
 H b = none ∧ b ≠ X.env.locals ∧ b ∉ X.fs ∧ (b ∈ X.ex ∨ X.s₀.heap.objs.size ≤ b) ∧ (∀ x c,X.env.cells.lookup x = some c → c ≠ b) ∧ ∀ p ∈ X.pn ++ pins,p.1 ≠ b
theorem aG.fpOk {X:Cx} {σ:St} {H H':Hp} {b:Addr} (I:aG X pins σ H s) (hb:s.heap.objs.size ≤ b) (hn:H' b = none):d6 X pins H' b:=by
 refine ⟨hn,Nat.ne_of_gt (Nat.lt_of_lt_of_le I.lt hb),I.nofs hb,.inr (Nat.le_trans I.sz hb),fun x c e z=>?_,fun p hp z=>?_⟩
 ·obtain ⟨v,q⟩:=I.cell x c e
  exact absurd (Nat.lt_of_lt_of_le q.lt (by rw [z]; exact hb)) (Nat.lt_irrefl _)
 ·exact absurd (Nat.lt_of_lt_of_le (Heap.lt_size (I.pin p hp).1) (by rw [z]; exact hb)) (Nat.lt_irrefl _)
structure vi (P:Program) (w:World) (K:PySem.W.Frag) (tg:Expr) (J:It) (fp:List Addr) (it:Addr) (tn:Nat → Heap → Prop):Prop where
 mem:it ∈ fp
 obj:∀ i h,tn i h → ∀ b ∈ fp,∃ o,h.get? b = some o ∧ ∀ v,o.data ≠ .cell v
 keep:∀ i h h',tn i h → (∀ b ∈ fp,∀ o,h.get? b = some o → h'.get? b = some o) → tn i h'
 item:∀ (X:Cx),X.prog = P → X.w = w → X.K = K → X.calm = true → ∀ (i:Nat) (pins:List (Addr × Obj)) (s:Shared) (σ:St) (H:Hp) (E:Value → Shared → Prop),aG X pins σ H s → (∀ b ∈ fp,d6 X pins H b) → tn i s.heap → J.go i H →
  wpAny (model P w) X.A (pyNext (.ref it)) (fun r s1=>∃ u,r = some u ∧
   wpAny (model P w) X.A (letOwnedTupleGo tg (.ref it) u) (fun _ s2=>∃ x H',aG X pins σ H' s2 ∧ aO x u ∧ J.yld i H x H' ∧ tn (i + 1) s2.heap ∧ ∀ b ∈ fp,H' b = none) E s1) E s
 done:∀ (X:Cx),X.prog = P → X.w = w → X.K = K → X.calm = true → ∀ (i:Nat) (pins:List (Addr × Obj)) (s:Shared) (σ:St) (H:Hp) (E:Value → Shared → Prop),aG X pins σ H s → (∀ b ∈ fp,d6 X pins H b) → tn i s.heap → J.stop i H →
  wpAny (model P w) X.A (pyNext (.ref it)) (fun r s1=>r = none ∧ aG X pins σ H s1) E s
 self:∀ (A:Around) (i:Nat) (s:Shared) (Q:Value → Shared → Prop) (E:Value → Shared → Prop),tn i s.heap → Q (.ref it) s → wpAny (model P w) A (pyIter (.ref it)) Q E s
abbrev TI:=St → Hp → (It → Hp → Prop) → Prop
def KS (X:Cx) (pins:List (Addr × Obj)) (σ:St) (tg:Expr) (R:It → Hp → Prop) (itv:Value) (s2:Shared):Prop :=
 ∃ (it:Addr) (fp:List Addr) (tn:Nat → Heap → Prop) (J:It) (H':Hp),itv = .ref it ∧ aG X pins σ H' s2 ∧ vi X.prog X.w X.K tg J fp it tn ∧ tn 0 s2.heap ∧ (∀ b ∈ fp,d6 X pins H' b) ∧ R J H'
def PI (X:Cx) (tg iter:Expr) (wi:TI):Prop :=
 ∀ (pins:List (Addr × Obj)) (s:Shared) (σ:St) (H:Hp) (R:It → Hp → Prop),aG X pins σ H s → wi σ H R →
  wpAny (model X.prog X.w) X.A (eval iter X.env) (fun v s1=>wpAny (model X.prog X.w) X.A (pyIter v) (KS X pins σ tg R) X.xe s1) X.xe s

theorem yk {M:Model} {tg:Expr} {it:Addr} {u:Value} {o:Obj} {n:String} {vs:Array Value} {Q:Unit → Shared → Prop} (ho:s.heap.get? it = some o) (hc:o.cls = .type n) (hd:o.data = .fields vs)
    (hn:["enumerate","zip","dict_itemiterator","dict_reverseitemiterator","odict_iterator","itertools.zip_longest","itertools.pairwise"].contains n = false) (hQ:Q () s):wpAny M A (letOwnedTupleGo tg (.ref it) u) Q E s:=by
  unfold letOwnedTupleGo
  cases tg <;> first
    | exact wpAny_pure hQ
    | (cases u <;> first
        | exact wpAny_pure hQ
        | (refine wpAny_bind (wpAny_load ho ?_)
           rw [hc,hd]
           show wpAny M A (if (["enumerate","zip","dict_itemiterator","dict_reverseitemiterator","odict_iterator","itertools.zip_longest","itertools.pairwise"].contains n && vs[0]? == some (rawInt _)) = true then _ else _) Q E s
           rw [if_neg (by intro h; rw [hn,Bool.false_and] at h; cases h)]
           exact wpAny_pure hQ))

def KU (K:PySem.W.Frag) (a:Addr):It :=
 ⟨fun i H=>∃ xs x,fu K H a xs ∧ xs[i]? = some x,fun i H x H'=>H' = H ∧ ∀ xs,fu K H a xs → xs[i]? = some x,fun i H=>∃ xs,fu K H a xs ∧ xs.length ≤ i⟩
def KW (K:PySem.W.Frag) (a:Addr):It :=
 ⟨fun i H=>∃ xs x,fh K H a xs ∧ xs[i]? = some x,fun i H x H'=>H' = H ∧ ∀ xs,fh K H a xs → xs[i]? = some x,fun i H=>∃ xs,fh K H a xs ∧ xs.length ≤ i⟩
def JS (lo:Int) (n:Nat):It:=⟨fun i _=>i < n,fun i H x H'=>H' = H ∧ x = .int (lo + i),fun i _=>n ≤ i⟩
theorem zI {tg:Expr} (a it:Addr):vi P w K tg (KU K a) [it] it (fun i h=>h.IsListIter it a i) where
 mem:=by simp
 obj:=fun i h st b hb=>by
  have e:b = it:=by simpa using hb
  subst e
  obtain ⟨o,e,c,d⟩:=st
  exact ⟨o,e,fun v z=>by rw [d] at z; cases z⟩
 keep:=fun i h h' st k=>st.at fun o e=>k it (by simp) o e
 item:=by
  intro X hP hw hK hc i pins s σ H E I hf st hg
  subst hP hw hK
  obtain ⟨xs,x,hq,hx⟩:=hg
  obtain ⟨its,rv,p,hz⟩:=I.list hq
  obtain ⟨u,hu,ru⟩:=rv.get hx
  obtain ⟨f0,f1,f2,f3,f4,f5⟩:=hf it (by simp)
  refine wpAny_pyNext_list_item st p.isList (x:=u) (by simpa using hu) fun h' st' sb=>?_
  have I1:aG X pins σ H { s with heap:=h' }:=I.turned (t':=s.toks) (fun b o hb e=>(sb.2 b hb).trans e) f0 f1 f3 f4 f5
  obtain ⟨o,e,c,d⟩:=id st'
  exact ⟨u,rfl,yk (s:={ s with heap:=h' }) e c d (by decide) ⟨x,H,I1,ru,⟨rfl,fun ys hy=>by rw [I.list_inj hy hq]; exact hx⟩,st',fun b hb=>(hf b hb).1⟩⟩
 done:=by
  intro X hP hw hK hc i pins s σ H E I hf st hg
  subst hP hw hK
  obtain ⟨xs,hq,hx⟩:=hg
  obtain ⟨its,rv,p,hz⟩:=I.list hq
  obtain ⟨f0,f1,f2,f3,f4,f5⟩:=hf it (by simp)
  have hl:=rv.length
  exact wpAny_pyNext_list_end (I.ok.hd hc) st p.isList (by simp; omega) fun h' eb=>⟨rfl,I.turned (t':=s.toks) (fun b o hb e=>eb b o hb e) f0 f1 f3 f4 f5⟩
 self:=fun _ _ _ _ _ st h=>wpAny_pyIter_listiter st h
theorem wS {tg:Expr} (a it:Addr):vi P w K tg (KW K a) [it] it (fun i h=>h.IsTupleIter it a i) where
 mem:=by simp
 obj:=fun i h st b hb=>by
  have e:b = it:=by simpa using hb
  subst e
  obtain ⟨o,e,c,d⟩:=st
  exact ⟨o,e,fun v z=>by rw [d] at z; cases z⟩
 keep:=fun i h h' st k=>st.at fun o e=>k it (by simp) o e
 item:=by
  intro X hP hw hK hc i pins s σ H E I hf st hg
  subst hP hw hK
  obtain ⟨xs,x,hq,hx⟩:=hg
  obtain ⟨its,rv,p,hz⟩:=I.tuple hq
  obtain ⟨u,hu,ru⟩:=rv.get hx
  obtain ⟨f0,f1,f2,f3,f4,f5⟩:=hf it (by simp)
  refine wpAny_pyNext_tuple_item st (show s.heap.IsTuple a its.toArray from p) (x:=u) (by simpa using hu) fun h' st' sb=>?_
  have I1:aG X pins σ H { s with heap:=h' }:=I.turned (t':=s.toks) (fun b o hb e=>(sb.2 b hb).trans e) f0 f1 f3 f4 f5
  obtain ⟨o,e,c,d⟩:=id st'
  exact ⟨u,rfl,yk (s:={ s with heap:=h' }) e c d (by decide) ⟨x,H,I1,ru,⟨rfl,fun ys hy=>by rw [I.tuple_inj hy hq]; exact hx⟩,st',fun b hb=>(hf b hb).1⟩⟩
 done:=by
  intro X hP hw hK hc i pins s σ H E I hf st hg
  subst hP hw hK
  obtain ⟨xs,hq,hx⟩:=hg
  obtain ⟨its,rv,p,hz⟩:=I.tuple hq
  obtain ⟨f0,f1,f2,f3,f4,f5⟩:=hf it (by simp)
  have hl:=rv.length
  exact wpAny_pyNext_tuple_end (I.ok.hd hc) st (show s.heap.IsTuple a its.toArray from p) (by simp; omega) fun h' eb=>⟨rfl,I.turned (t':=s.toks) (fun b o hb e=>eb b o hb e) f0 f1 f3 f4 f5⟩
 self:=fun _ _ _ _ _ st h=>wpAny_pyIter_tupleiter st h
theorem wT {tg:Expr} (it:Addr) (lo:Int) (n:Nat):vi P w K tg (JS lo n) [it] it (fun i h=>IsRangeIter h it (lo + (i:Nat) * 1) ((n:Int) - (i:Nat)) 1) where
 mem:=by simp
 obj:=fun i h st b hb=>by
  have e:b = it:=by simpa using hb
  subst e
  exact ⟨_,st,fun v z=>by
   have z':Data.fields _ = Data.cell v:=z
   cases z'⟩
 keep:=fun i h h' st k=>k it (by simp) _ st
 item:=by
  intro X hP hw hK hc i pins s σ H E I hf st hg
  subst hP hw hK
  obtain ⟨f0,f1,f2,f3,f4,f5⟩:=hf it (by simp)
  have W:=Walks.range (prog:=X.prog) (w:=X.w) (I.ok.hd hc) it lo 1 n
  refine W.item i s _ _ hg st fun v h' tk hv st' kk=>?_
  obtain ⟨t,rfl⟩:=hv
  have I1:aG X pins σ H { s with heap:=h',toks:=tk }:=I.turned (fun b o hb e=>kk b o (by simpa using hb) e) f0 f1 f3 f4 f5
  refine ⟨_,rfl,yk (s:={ s with heap:=h',toks:=tk }) (n:="range_iterator") st' rfl rfl (by decide) ⟨.int (lo + i),H,I1,⟨t,?_⟩,⟨rfl,rfl⟩,st',fun b hb=>(hf b hb).1⟩⟩
  rw [Int.mul_one]
 done:=by
  intro X hP hw hK hc i pins s σ H E I hf st hg
  subst hP hw hK
  obtain ⟨f0,f1,f2,f3,f4,f5⟩:=hf it (by simp)
  exact wpAny_pyNext_range_end (I.ok.hd hc) st (by have:n ≤ i:=hg; omega) fun h' eb=>⟨rfl,I.turned (t':=s.toks) (fun b o hb e=>eb b o hb e) f0 f1 f3 f4 f5⟩
 self:=fun _ _ _ _ _ st h=>wpAny_pyIter_rangeiter st h
section
variable {X:Cx} {tg:Expr}
def FO (K:PySem.W.Frag) (tl:TE):TI:=fun σ H R=>tl σ H fun x H1=>∃ a,x = .ref a ∧ (∃ xs,fu K H1 a xs) ∧ R (KU K a) H1
def IV (K:PySem.W.Frag) (tl:TE):TI:=fun σ H R=>tl σ H fun x H1=>∃ a,x = .ref a ∧ (∃ xs,fh K H1 a xs) ∧ R (KW K a) H1
theorem fi {l:Expr} {tl:TE} (hl:PE X l tl):PI X tg l (FO X.K tl):=by
 intro pins s σ H R I h
 refine bw (hl pins s σ H _ I h) fun v s1 ⟨x,H1,I1,r1,q1⟩=>?_
 obtain ⟨a,e,⟨xs,hq⟩,q⟩:=q1
 subst e
 cases r1
 obtain ⟨its,rv,p,hz⟩:=I1.list hq
 refine wpAny_pyIter_list p.isList ?_
 refine ⟨s1.heap.objs.size,[s1.heap.objs.size],_,_,H1,rfl,I1.kept (t':=s1.toks) fun b o e=>Heap.get?_push_of_some _ e,zI a _,⟨_,Heap.get?_push_size _ rfl,rfl,rfl⟩,fun b hb=>?_,q⟩
 have e:b = s1.heap.objs.size:=by simpa using hb
 subst e
 exact I1.fpOk (Nat.le_refl _) (I1.hok.fresh (Nat.le_refl _))
theorem dF {l:Expr} {tl:TE} (hl:PE X l tl):PI X tg l (IV X.K tl):=by
 intro pins s σ H R I h
 refine bw (hl pins s σ H _ I h) fun v s1 ⟨x,H1,I1,r1,q1⟩=>?_
 obtain ⟨a,e,⟨xs,hq⟩,q⟩:=q1
 subst e
 cases r1
 obtain ⟨its,rv,p,hz⟩:=I1.tuple hq
 refine wpAny_pyIter_tuple (show s1.heap.IsTuple a its.toArray from p) ?_
 refine ⟨s1.heap.objs.size,[s1.heap.objs.size],_,_,H1,rfl,I1.kept (t':=s1.toks) fun b o e=>Heap.get?_push_of_some _ e,wS a _,⟨_,Heap.get?_push_size _ rfl,rfl,rfl⟩,fun b hb=>?_,q⟩
 have e:b = s1.heap.objs.size:=by simpa using hb
 subst e
 exact I1.fpOk (Nat.le_refl _) (I1.hok.fresh (Nat.le_refl _))
theorem Bj {σ:St} {H:Hp} {R:It → Hp → Prop} {lo hi:Int} {t u v:Tok} {tk:Nat} (I:aG X pins σ H s) (h1:-(2 ^ 62) ≤ lo) (h2:lo < 2 ^ 62) (h3:-(2 ^ 62) ≤ hi) (h4:hi < 2 ^ 62)
  (q:R (JS lo (hi - lo).toNat) H):wpAny (model X.prog X.w) X.A (pyIter (.ref s.heap.objs.size)) (KS X pins σ tg R) E { s with heap:=s.heap.push { cls:=.type "range",data:=.fields #[.int lo t,.int hi u,.int 1 v] },toks:=tk }:=by
 refine wpAny_pyIter_range (IsRange.new ..) (small_one h1 h2 h3 h4) ?_
 have I1:aG X pins σ H { s with heap:=s.heap.push { cls:=.type "range",data:=.fields #[.int lo t,.int hi u,.int 1 v] },toks:=tk }:=I.kept fun b o e=>Heap.get?_push_of_some _ e
 refine ⟨(s.heap.push { cls:=.type "range",data:=.fields #[.int lo t,.int hi u,.int 1 v] }).objs.size,[(s.heap.push { cls:=.type "range",data:=.fields #[.int lo t,.int hi u,.int 1 v] }).objs.size],_,_,H,rfl,
  I1.kept (t':=tk) fun b o e=>Heap.get?_push_of_some _ e,wT _ lo (hi - lo).toNat,?_,fun b hb=>?_,q⟩
 ·have e1:lo + ((0:Nat):Int) * 1 = lo:=by simp
  have e2:(((hi - lo).toNat:Nat):Int) - ((0:Nat):Int) = Builtin.Range.rangeSize lo hi 1:=by rw [rangeSize_one]; split <;> omega
  show IsRangeIter _ _ (lo + ((0:Nat):Int) * 1) ((((hi - lo).toNat:Nat):Int) - ((0:Nat):Int)) 1
  rw [e1,e2]
  exact Heap.get?_push_size _ rfl
 ·have e:b = (s.heap.push { cls:=.type "range",data:=.fields #[.int lo t,.int hi u,.int 1 v] }).objs.size:=by simpa using hb
  subst e
  exact I1.fpOk (Nat.le_refl _) (I1.hok.fresh (Nat.le_refl _))
def FP (ta:TA):TI:=fun σ H R=>ta σ H fun vs H1=>∃ j:Int,vs = [.int j] ∧ -(2 ^ 62) ≤ j ∧ j < 2 ^ 62 ∧ R (JS 0 j.toNat) H1
theorem jb {a:Expr} {ta:TA} {p pos:Pos} (hg:Gl X "range") (hm:X.mg "range" = none) (ha:PA X [a] ta) (hs:starEach [a] X.env = [(false,eval a X.env)]:=by with_unfolding_all rfl):PI X tg (.Call (.Name "range" p) [a] [] pos) (FP ta):=by
 intro pins s σ H R I h
 refine Call_ (lF I hg hm boot_range (PyProof.Rows.callWith_type1 (bw (ha pos pins s σ H _ I h) fun us s1 ⟨vs,H1,I1,r1,q1⟩=>?_) hs rfl))
 obtain ⟨j,e,q1,q2,q⟩:=q1
 subst e
 cases r1 with
 | cons r rr =>
  cases rr
  obtain ⟨t,rfl⟩:=r
  exact call_range_1 (Bj I1 (by omega) (by omega) q1 q2 (by simpa using q))
def IW (wi:TI) (g:TG) (tb:TS):TS:=fun D σ H=>wi σ H fun J H1=>∃ W:Nat → Nat → St → Hp → Prop,(∃ m,W 0 m σ H1) ∧ ∀ i m σ H,W i m σ H →
 (J.stop i H ∧ D.nx σ H) ∨ (J.go i H ∧ ∃ N:St → Hp → Prop,(∀ σ' H',N σ' H' → ∃ m',m' < m ∧ W (i + 1) m' σ' H') ∧ ∀ x H',J.yld i H x H' → g x σ H' fun σ2 H2=>tb { D with nx:=N,ct:=N,bk:=D.nx } σ2 H2)
def lH (fp:List Addr) (h:Heap):List (Addr × Obj):=fp.filterMap fun b=>(h.get? b).map fun o=>(b,o)
theorem d7 {fp:List Addr} {h:Heap} {b:Addr} {o:Obj} (hb:b ∈ fp) (e:h.get? b = some o):(b,o) ∈ lH fp h:=List.mem_filterMap.mpr ⟨b,hb,by rw [e]; rfl⟩
theorem zJ {fp:List Addr} {h:Heap} {p:Addr × Obj} (hp:p ∈ lH fp h):p.1 ∈ fp ∧ h.get? p.1 = some p.2:=by
 obtain ⟨b,hb,e⟩:=List.mem_filterMap.mp hp
 cases q:h.get? b with
 | none=>rw [q] at e; cases e
 | some o =>
  rw [q] at e
  have e':(b,o) = p:=Option.some.inj e
  subst e'
  exact ⟨hb,q⟩
theorem aG.pinned {σ:St} {H:Hp} {fp:List Addr} (I:aG X pins σ H s) (hf:∀ b ∈ fp,d6 X pins H b) (ho:∀ b ∈ fp,∃ o,s.heap.get? b = some o ∧ ∀ v,o.data ≠ .cell v):aG X (pins ++ lH fp s.heap) σ H s :=
 I.pins_of fun p hp=>(List.mem_append.mp hp).elim (fun z=>I.pin p (List.mem_append_right _ z)) fun z=>by
  obtain ⟨hb,e⟩:=zJ z
  obtain ⟨f0,f1,f2,_⟩:=hf p.1 hb
  obtain ⟨o,e',d⟩:=ho p.1 hb
  rw [e] at e'; cases e'
  exact ⟨e,f0,f1,f2,d⟩
theorem aG.unpinned {pins pl:List (Addr × Obj)} {σ:St} {H:Hp} (I:aG X (pins ++ pl) σ H s):aG X pins σ H s:=I.pins_of fun p hp=>I.pin p (List.mem_append_right _ (List.mem_append_left _ hp))
theorem Bk {iter:Expr} {body:List Stmt} {wi:TI} {g:TG} {tb:TS} (hp:PassesOwn (model X.prog X.w) X.A X.env X.xe) (hc:X.calm = true) (hi:PI X tg iter wi) (hg:PG X tg g) (hb:iz X body tb)
  (hs:∀ x,foldedSetIterable iter X.env x = pure x:=by with_unfolding_all (intro _; rfl)):PS X (.For tg iter body [] pos) (IW wi g tb):=by
 intro pins s σ H D I h
 refine wpAny_For (bw (hi pins s σ H _ I h) fun v s1 h1=>bw h1 fun itv s2 h2=>?_) hs
 obtain ⟨it,fp,tn,J,H2,e,I2,T,st2,f2,W,⟨m0,w0⟩,turn⟩:=h2
 subst e
 -- what stays true of the iterator's objects through the loop
 have stat:∀ {H':Hp},(∀ b ∈ fp,H' b = none) → ∀ b ∈ fp,d6 X pins H' b:=fun hn b hb=>⟨hn b hb,(f2 b hb).2⟩
 refine codeAny_forLoop_any (fun n s'=>∃ i σ' H',aG X pins σ' H' s' ∧ tn i s'.heap ∧ (∀ b ∈ fp,H' b = none) ∧ W i n σ' H') ?_ m0 ⟨0,σ,H2,I2,st2,fun b hb=>(f2 b hb).1,w0⟩
 rintro n s3 ⟨i,σ3,H3,I3,st3,fr3,w3⟩
 rcases turn i n σ3 H3 w3 with ⟨stop,qn⟩ | ⟨go,N,hN,step⟩
 ·refine wpAny_passesOwn hp (bw (T.done X rfl rfl rfl hc i pins s3 σ3 H3 X.xe I3 (stat fr3) st3 stop) fun r s4 ⟨hr,I4⟩=>?_)
  subst hr
  exact wpAny_execs_nil ⟨σ3,H3,I4,qn⟩
 ·refine wpAny_passesOwn hp (bw (T.item X rfl rfl rfl hc i pins s3 σ3 H3 X.xe I3 (stat fr3) st3 go) fun r s4 ⟨u,hr,h4⟩=>?_)
  subst hr
  refine wpAny_passesOwn hp (bw h4 fun _ s5 ⟨x,H5,I5,r5,y5,st5,fr5⟩=>?_)
  have I5':=I5.pinned (stat fr5) (T.obj _ _ st5)
  refine wpAny_passesOwn hp (bw (hg _ s5 σ3 H5 x u _ I5' r5 (step x H5 y5)) fun _ s6 ⟨σ6,H6,I6,q6⟩=>?_)
  refine wpAny_passesOwn hp (bw (hb _ s6 σ6 H6 _ I6 q6) fun f s7 q7=>?_)
  have again:∀ {σ7:St} {H7:Hp},aG X (pins ++ lH fp s5.heap) σ7 H7 s7 → N σ7 H7 → ∃ m,m < n ∧ ∃ i σ' H',aG X pins σ' H' s7 ∧ tn i s7.heap ∧ (∀ b ∈ fp,H' b = none) ∧ W i m σ' H':=fun {σ7 H7} I7 n7=>by
   obtain ⟨m',hm,w7⟩:=hN σ7 H7 n7
   refine ⟨m',hm,i + 1,σ7,H7,I7.unpinned,T.keep _ _ _ st5 fun b hb o e=>(I7.pin (b,o) (List.mem_append_right _ (List.mem_append_right _ (d7 hb e)))).1,fun b hb=>?_,w7⟩
   obtain ⟨o,e,d⟩:=T.obj _ _ st5 b hb
   exact (I7.pin (b,o) (List.mem_append_right _ (List.mem_append_right _ (d7 hb e)))).2.1
  cases f with
  | next=>obtain ⟨σ7,H7,I7,n7⟩:=q7; exact again I7 n7
  | cont=>obtain ⟨σ7,H7,I7,n7⟩:=q7; exact again I7 n7
  | brk=>obtain ⟨σ7,H7,I7,q7⟩:=q7; exact ⟨σ7,H7,I7.unpinned,q7⟩
  | ret v=>obtain ⟨x7,σ7,H7,I7,r7,q7⟩:=q7; exact ⟨x7,σ7,H7,I7.unpinned,r7,q7⟩
end
abbrev R2:=V → V → Hp → VK → Prop
def kh (X:Cx) (f:Value → Value → Sem Value) (r:R2):Prop :=
 ∀ (pins:List (Addr × Obj)) (s:Shared) (σ:St) (H:Hp) (x y:V) (v u:Value) (Q:VK),aG X pins σ H s → aO x v → aO y u → r x y H Q →
  wpAny (model X.prog X.w) X.A (f v u) (EP X pins σ Q) X.xe s
def J8 (X:Cx) (f:Value → Sem Value) (r:V → Hp → VK → Prop):Prop :=
 ∀ (pins:List (Addr × Obj)) (s:Shared) (σ:St) (H:Hp) (x:V) (v:Value) (Q:VK),aG X pins σ H s → aO x v → r x H Q →
  wpAny (model X.prog X.w) X.A (f v) (EP X pins σ Q) X.xe s
def dy (X:Cx) (f:Value) (r:List V → Hp → VK → Prop):Prop :=
 ∀ (pins:List (Addr × Obj)) (s:Shared) (σ:St) (H:Hp) (xs:List V) (us:List Value) (Q:VK),aG X pins σ H s → aN xs us → r xs H Q →
  wpAny (model X.prog X.w) X.A (call f us) (EP X pins σ Q) X.xe s
def IX (X:Cx) (r:V → Hp → (Bool → Hp → Prop) → Prop):Prop :=
 ∀ (pins:List (Addr × Obj)) (s:Shared) (σ:St) (H:Hp) (x:V) (v:Value) (Q:Bool → Hp → Prop),aG X pins σ H s → aO x v → r x H Q →
  wpAny (model X.prog X.w) X.A (truthy v) (TP X pins σ Q) X.xe s

def GJ (r:R2) (ta tb:TE):TE:=fun σ H Q=>ta σ H fun x H1=>tb σ H1 fun y H2=>r x y H2 Q
def K6 (r:V → Hp → VK → Prop) (ta:TE):TE:=fun σ H Q=>ta σ H fun x H1=>r x H1 Q
def rI (C:Int → Int → Prop) (g:Int → Int → V):R2:=fun x y H Q=>∃ i j,x = .int i ∧ y = .int j ∧ C i j ∧ Q (g i j) H
def D6 (g:Int → Int → V):R2:=fun x y H Q=>∃ i j,x = .int i ∧ y = .int j ∧ Q (g i j) H
def rU (g:Int → V):V → Hp → VK → Prop:=fun x H Q=>∃ i,x = .int i ∧ Q (g i) H

section
variable {X:Cx} {a b c:Expr} {ta tb tc:TE}
theorem GK (ha:PE X a ta) (hb:PE X b tb) {σ:St} {H:Hp} {R:V → V → Hp → Prop} (I:aG X pins σ H s)
  (h:ta σ H fun x H1=>tb σ H1 fun y H2=>R x y H2) {Q:Value → Shared → Prop} {f:Value → Value → Sem Value}
  (hf:∀ v u s2 x y H2,aG X pins σ H2 s2 → aO x v → aO y u → R x y H2 → wpAny (model X.prog X.w) X.A (f v u) Q X.xe s2) :
  wpAny (model X.prog X.w) X.A (eval a X.env) (fun v s₁=>wpAny (model X.prog X.w) X.A (eval b X.env) (fun u s₂=>wpAny (model X.prog X.w) X.A (f v u) Q X.xe s₂) X.xe s₁) X.xe s:=by
 refine bw (ha pins s σ H _ I h) fun v s1 ⟨x,H1,I1,r1,q1⟩=>?_
 refine bw (hb pins s1 σ H1 _ I1 q1) fun u s2 ⟨y,H2,I2,r2,q2⟩=>?_
 exact hf v u s2 x y H2 I2 r1 r2 q2

theorem eL {op:Operator} {r:R2} (ho:kh X (binaryOp op) r) (ha:PE X a ta) (hb:PE X b tb):PE X (.BinOp a op b pos) (GJ r ta tb):=by
 intro pins s σ H Q I h
 exact wpAny_BinOp (GK ha hb I h fun v u s2 x y H2 I2 rx ry q=>ho pins s2 σ H2 x y v u Q I2 rx ry q)
theorem IY {op:UnaryOp} {r:V → Hp → VK → Prop} (ho:J8 X (unaryOp op) r) (ha:PE X a ta):PE X (.UnaryOp op a pos) (K6 r ta):=by
 intro pins s σ H Q I h
 exact UnaryOp_ (bw (ha pins s σ H _ I h) fun v s1 ⟨x,H1,I1,r1,q1⟩=>ho pins s1 σ H1 x v Q I1 r1 q1)
theorem JT {f:Value → Value → Sem Value} {C:Int → Int → Prop} {g:Int → Int → Int}
  (rule:∀ (i j:Int) (t u:Tok) (s:Shared) (Q:Value → Shared → Prop) (E:Value → Shared → Prop),C i j → Q (.int (g i j) s.toks) { s with toks:=s.toks + 1 } → wpAny (model X.prog X.w) X.A (f (.int i t) (.int j u)) Q E s) :
  kh X f (rI C fun i j=>.int (g i j)):=by
 intro pins s σ H x y v u Q I rx ry h
 obtain ⟨i,j,rfl,rfl,hc,q⟩:=h
 obtain ⟨t,rfl⟩:=rx
 obtain ⟨t',rfl⟩:=ry
 exact rule i j t t' s _ _ hc ⟨.int (g i j),H,I.tok _,⟨_,rfl⟩,q⟩
theorem J9 {f:Value → Value → Sem Value} {g:Int → Int → Int}
  (rule:∀ (i j:Int) (t u:Tok) (s:Shared) (Q:Value → Shared → Prop) (E:Value → Shared → Prop),Q (.int (g i j) s.toks) { s with toks:=s.toks + 1 } → wpAny (model X.prog X.w) X.A (f (.int i t) (.int j u)) Q E s) :
  kh X f (D6 fun i j=>.int (g i j)):=by
 intro pins s σ H x y v u Q I rx ry h
 obtain ⟨i,j,rfl,rfl,q⟩:=h
 obtain ⟨t,rfl⟩:=rx
 obtain ⟨t',rfl⟩:=ry
 exact rule i j t t' s _ _ ⟨.int (g i j),H,I.tok _,⟨_,rfl⟩,q⟩
theorem IZ {f:Value → Value → Sem Value} {g:Int → Int → Bool}
  (rule:∀ (i j:Int) (t u:Tok) (s:Shared) (Q:Value → Shared → Prop) (E:Value → Shared → Prop),Q (.bool (g i j)) s → wpAny (model X.prog X.w) X.A (f (.int i t) (.int j u)) Q E s) :
  kh X f (D6 fun i j=>.bl (g i j)):=by
 intro pins s σ H x y v u Q I rx ry h
 obtain ⟨i,j,rfl,rfl,q⟩:=h
 obtain ⟨t,rfl⟩:=rx
 obtain ⟨t',rfl⟩:=ry
 exact rule i j t t' s _ _ ⟨.bl (g i j),H,I,rfl,q⟩

def Ka (i j:Int):Prop:=0 < j ∧ j < 1073741824
def Kb (i j:Int):Prop:=0 ≤ j ∧ j ≤ 1000000 ∧ i.natAbs < 2 ^ 64
def GL (i j:Int):Prop:=(-(2 ^ 64) < i ∧ i < 2 ^ 64) ∨ (-(2 ^ 64) < j ∧ j < 2 ^ 64)
theorem GL.ok {i j:Int} (h:GL i j):IntMulOk i j:=by
 rcases h with ⟨h1,h2⟩ | ⟨h1,h2⟩
 ·exact .of_left (intBits_le_64 h1 h2)
 ·exact .of_right (intBits_le_64 h1 h2)
theorem ck:kh X (binaryOp .Add) (D6 fun i j=>.int (i + j)):=J9 fun _ _ _ _ _ _ _ q=>add_int q
theorem Bl:kh X (binaryOp .Mult) (rI GL fun i j=>.int (i * j)):=JT fun _ _ _ _ _ _ _ hc q=>mul_int q hc.ok
theorem tm:kh X (binaryOp .FloorDiv) (rI Ka fun i j=>.int (i / j)):=JT fun i j _ _ _ _ _ hc q=>by
 have h1:(0:Int) < j:=hc.1
 have h2:j < 1073741824:=hc.2
 exact floordiv_int (by omega) (by rw [Int.fdiv_eq_ediv_of_nonneg i (by omega)]; exact q) (.inl (PyProof.noPylong_small (by omega)))
theorem lI:kh X (binaryOp .Mod) (rI (fun _ j=>0 < j) fun i j=>.int (i % j)):=JT fun i j _ _ _ _ _ hc q=>by
 have h1:(0:Int) < j:=hc
 exact mod_int' (by omega) (by rw [Int.fmod_eq_emod_of_nonneg i (by omega)]; exact q)
theorem Bm:kh X (binaryOp .Pow) (rI Kb fun i j=>.int (i ^ j.toNat)):=JT fun _ _ _ _ _ _ _ hc q=>pow_int_small hc.1 hc.2.1 hc.2.2 q
theorem K7 {f:Value → Sem Value} {g:Int → Int}
  (rule:∀ (i:Int) (t:Tok) (s:Shared) (Q:Value → Shared → Prop) (E:Value → Shared → Prop),Q (.int (g i) s.toks) { s with toks:=s.toks + 1 } → wpAny (model X.prog X.w) X.A (f (.int i t)) Q E s) :
  J8 X f (rU fun i=>.int (g i)):=by
 intro pins s σ H x v Q I rx h
 obtain ⟨i,rfl,q⟩:=h
 obtain ⟨t,rfl⟩:=rx
 exact rule i t s _ _ ⟨.int (g i),H,I.tok _,⟨_,rfl⟩,q⟩
theorem GM:J8 X (unaryOp .USub) (rU fun i=>.int (-i)):=K7 fun _ _ _ _ _ q=>neg_int q
end
def Bn:V → V → Bool
 | .non,.non=>true | .non,.int _=>true | .int _,.non=>true | .non,.bl _=>true | .bl _,.non=>true | .non,.str _=>true | .str _,.non=>true
 | .int _,.int _=>true | .bl _,.bl _=>true | .str _,.str _=>true | .byt _,.byt _=>true
 | .int _,.str _=>true | .str _,.int _=>true | .bl _,.str _=>true | .str _,.bl _=>true
 | _,_=>false
def KY:R2:=fun x y H Q=>Bn x y = true ∧ Q (.bl (decide (x = y))) H
def KZ:R2:=fun x y H Q=>Bn x y = true ∧ Q (.bl (!decide (x = y))) H

theorem ym {i j:Int}:decide (V.int i = V.int j) = (i == j):=by
 rw [Bool.eq_iff_iff]
 simp
theorem Bo {i j:Bool}:decide (V.bl i = V.bl j) = (i == j):=by
 rw [Bool.eq_iff_iff]
 simp
theorem yn {i j:Str}:decide (V.str i = V.str j) = (i == j):=by
 rw [Bool.eq_iff_iff]
 simp
theorem yo {i j:Array UInt8}:decide (V.byt i = V.byt j) = (i.toList == j.toList):=by
 rw [Bool.eq_iff_iff]
 cases i
 cases j
 simp

section
variable {X:Cx} {a b c:Expr} {ta tb tc:TE}
theorem bA {σ:St} {H:Hp} {Q:VK} {k k':Bool} (I:aG X pins σ H s) (q:Q (.bl k) H) (e:k = k'):EP X pins σ Q (.bool k') s:=by
 subst e
 exact ⟨.bl k,H,I,rfl,q⟩
theorem dG:kh X (compareOp .Eq) KY:=by
 intro pins s σ H x y v u Q I rx ry h
 obtain ⟨hs,q⟩:=h
 cases x with
 | non =>
  cases rx
  cases y with
  | non=>cases ry; exact PySem.EqNone.eq_none_none (bA I q (by simp))
  | bl j=>cases ry; exact PySem.EqNone.eq_none_bool (bA I q (by simp))
  | int j=>obtain ⟨t',rfl⟩:=ry; exact PySem.EqNone.eq_none_int (bA I q (by simp))
  | str j=>obtain ⟨t',rfl⟩:=ry; exact PySem.EqNone.eq_none_str (bA I q (by simp))
  | _=>exact absurd (show false = true from hs) Bool.false_ne_true
 | bl i =>
  cases rx
  cases y with
  | non=>cases ry; exact PySem.EqNone.eq_bool_none (bA I q (by simp))
  | bl j=>cases ry; exact eq_bool (bA I q Bo)
  | str j=>obtain ⟨t',rfl⟩:=ry; exact PySem.EqMixed.eq_bool_str (bA I q (by simp))
  | _=>exact absurd (show false = true from hs) Bool.false_ne_true
 | int i =>
  obtain ⟨t,rfl⟩:=rx
  cases y with
  | non=>cases ry; exact PySem.EqNone.eq_int_none (bA I q (by simp))
  | int j=>obtain ⟨t',rfl⟩:=ry; exact eq_int (bA I q ym)
  | str j=>obtain ⟨t',rfl⟩:=ry; exact PySem.EqMixed.eq_int_str (bA I q (by simp))
  | _=>exact absurd (show false = true from hs) Bool.false_ne_true
 | str i =>
  obtain ⟨t,rfl⟩:=rx
  cases y with
  | non=>cases ry; exact PySem.EqNone.eq_str_none (bA I q (by simp))
  | bl j=>cases ry; exact PySem.EqMixed.eq_str_bool (bA I q (by simp))
  | int j=>obtain ⟨t',rfl⟩:=ry; exact PySem.EqMixed.eq_str_int (bA I q (by simp))
  | str j=>obtain ⟨t',rfl⟩:=ry; exact eq_str (bA I q yn)
  | _=>exact absurd (show false = true from hs) Bool.false_ne_true
 | byt i =>
  obtain ⟨t,rfl⟩:=rx
  cases y with
  | byt j=>obtain ⟨t',rfl⟩:=ry; exact PySem.W.eq_bytes (bA I q yo)
  | _=>exact absurd (show false = true from hs) Bool.false_ne_true
 | _=>cases y <;> exact absurd (show false = true from hs) Bool.false_ne_true
theorem oj:kh X (compareOp .NotEq) KZ:=by
 intro pins s σ H x y v u Q I rx ry h
 obtain ⟨hs,q⟩:=h
 cases x with
 | non =>
  cases rx
  cases y with
  | non=>cases ry; exact PySem.EqNone.ne_none_none (bA I q (by simp))
  | bl j=>cases ry; exact PySem.EqNone.ne_none_bool (bA I q (by simp))
  | int j=>obtain ⟨t',rfl⟩:=ry; exact PySem.EqNone.ne_none_int (bA I q (by simp))
  | str j=>obtain ⟨t',rfl⟩:=ry; exact PySem.EqNone.ne_none_str (bA I q (by simp))
  | _=>exact absurd (show false = true from hs) Bool.false_ne_true
 | bl i =>
  cases rx
  cases y with
  | non=>cases ry; exact PySem.EqNone.ne_bool_none (bA I q (by simp))
  | bl j=>cases ry; exact ne_bool (bA I q (congrArg not Bo))
  | str j=>obtain ⟨t',rfl⟩:=ry; exact PySem.EqMixed.ne_bool_str (bA I q (by simp))
  | _=>exact absurd (show false = true from hs) Bool.false_ne_true
 | int i =>
  obtain ⟨t,rfl⟩:=rx
  cases y with
  | non=>cases ry; exact PySem.EqNone.ne_int_none (bA I q (by simp))
  | int j=>obtain ⟨t',rfl⟩:=ry; exact ne_int (bA I q (congrArg not ym))
  | str j=>obtain ⟨t',rfl⟩:=ry; exact PySem.EqMixed.ne_int_str (bA I q (by simp))
  | _=>exact absurd (show false = true from hs) Bool.false_ne_true
 | str i =>
  obtain ⟨t,rfl⟩:=rx
  cases y with
  | non=>cases ry; exact PySem.EqNone.ne_str_none (bA I q (by simp))
  | bl j=>cases ry; exact PySem.EqMixed.ne_str_bool (bA I q (by simp))
  | int j=>obtain ⟨t',rfl⟩:=ry; exact PySem.EqMixed.ne_str_int (bA I q (by simp))
  | str j=>obtain ⟨t',rfl⟩:=ry; exact ne_str (bA I q (congrArg not yn))
  | _=>exact absurd (show false = true from hs) Bool.false_ne_true
 | byt i =>
  obtain ⟨t,rfl⟩:=rx
  cases y with
  | byt j=>obtain ⟨t',rfl⟩:=ry; exact PySem.W.ne_bytes (bA I q (congrArg not yo))
  | _=>exact absurd (show false = true from hs) Bool.false_ne_true
 | _=>cases y <;> exact absurd (show false = true from hs) Bool.false_ne_true

theorem om:kh X (compareOp .Lt) (D6 fun i j=>.bl (decide (i < j))):=IZ fun _ _ _ _ _ _ _ q=>lt_int q
theorem FQ:kh X (compareOp .GtE) (D6 fun i j=>.bl (decide (j ≤ i))):=IZ fun _ _ _ _ _ _ _ q=>ge_int q
theorem jH (b:Expr) {op:CmpOp} (h:op ≠ .In:=by decide) (h2:op ≠ .NotIn:=by decide):behindInMarks op b = false:=by
 have e1:(op == CmpOp.In) = false:=by cases op <;> first | rfl | exact absurd rfl h
 have e2:(op == CmpOp.NotIn) = false:=by cases op <;> first | rfl | exact absurd rfl h2
 cases b <;> simp [behindInMarks,e1,e2]
theorem Ej {op:CmpOp} {r:R2} (ho:kh X (compareOp op) r) (ha:PE X a ta) (hb:PE X b tb) (hm:behindInMarks op b = false):PE X (.Compare a [op] [b] pos) (GJ r ta tb):=by
 intro pins s σ H Q I h
 exact wpAny_Compare1 (GK ha hb I h fun v u s2 x y H2 I2 rx ry q=>ho pins s2 σ H2 x y v u Q I2 rx ry q) hm
def vj (t:TE):TT:=fun σ H Q=>t σ H fun x H'=>∃ k,x = .bl k ∧ Q k H'
theorem tq {op:CmpOp} {r:R2} (ho:kh X (compareOp op) r) (ha:PE X a ta) (hb:PE X b tb) (hm:behindInMarks op b = false):PT X (.Compare a [op] [b] pos) (vj (GJ r ta tb)):=by
 intro pins s σ H Q I h
 refine wpAny_isTrue_Compare1 (bw (ha pins s σ H _ I h) fun v s1 ⟨x,H1,I1,r1,q1⟩=>bw (hb pins s1 σ H1 _ I1 q1) fun u s2 ⟨y,H2,I2,r2,q2⟩ =>
  bw (ho pins s2 σ H2 x y v u _ I2 r1 r2 q2) fun c s3 ⟨z,H3,I3,r3,k,e,q3⟩=>?_) hm
 subst e
 cases r3
 exact wpAny_truthy_bool ⟨H3,I3,q3⟩
def I0 (K:PySem.W.Frag) (x:V) (H:Hp) (k:Bool):Prop :=
 match x with
 | .non=>k = false
 | .bl b=>k = b
 | .int i=>k = (i != 0)
 | .str y=>y.length ≤ sizeLine ∧ k = ((y.length:Int) != 0)
 | .byt y=>y.size ≤ sizeLine ∧ k = ((y.size:Int) != 0)
 | .ref p=>(∃ xs,fu K H p xs ∧ k = !xs.isEmpty) ∨ (∃ xs,fh K H p xs ∧ k = !xs.isEmpty) ∨ ∃ kvs,H p = some (.dK kvs) ∧ k = !kvs.isEmpty
 | _=>False
theorem wU {κ:Type} {kvs:List (κ × V)} {vs:List (κ × Value)} (r:KV kvs vs):(!vs.isEmpty) = !kvs.isEmpty:=by
 cases r <;> rfl
theorem jI {xs:List V} {its:List Value} (r:aN xs its):(!its.toArray.isEmpty) = !xs.isEmpty:=by
 cases r <;> simp
theorem lJ:(sizeLine:Nat) < 2 ^ 63:=by rw [sizeLine_eq]; decide
theorem wV:IX X (fun x H Q=>∃ k,I0 X.K x H k ∧ Q k H):=by
 intro pins s σ H x v Q I rx h
 obtain ⟨k,e,q⟩:=h
 have hl:=lJ
 have hs:sizeLine = 16777216:=sizeLine_eq
 cases x with
 | non =>
  cases rx
  have e':k = false:=e
  subst e'
  exact truthy_none ⟨H,I,q⟩
 | bl b =>
  cases rx
  have e':k = b:=e
  subst e'
  exact wpAny_truthy_bool ⟨H,I,q⟩
 | int i =>
  obtain ⟨t,rfl⟩:=rx
  have e':k = (i != 0):=e
  subst e'
  exact PySem.P.truthy_int ⟨H,I,q⟩
 | str y =>
  obtain ⟨t,rfl⟩:=rx
  obtain ⟨hy,e'⟩:y.length ≤ sizeLine ∧ k = ((y.length:Int) != 0):=e
  subst e'
  exact PySem.P.truthy_str (by omega) ⟨H,I.tok _,q⟩
 | byt y =>
  obtain ⟨t,rfl⟩:=rx
  obtain ⟨hy,e'⟩:y.size ≤ sizeLine ∧ k = ((y.size:Int) != 0):=e
  subst e'
  exact PySem.W.truthy_bytes (by omega) ⟨H,I.tok _,q⟩
 | ref p =>
  cases rx
  have e':(∃ xs,fu X.K H p xs ∧ k = !xs.isEmpty) ∨ (∃ xs,fh X.K H p xs ∧ k = !xs.isEmpty) ∨ ∃ kvs,H p = some (.dK kvs) ∧ k = !kvs.isEmpty:=e
  rcases e' with ⟨xs,hx,e'⟩ | ⟨xs,hx,e'⟩ | ⟨kvs,hx,e'⟩
  ·subst e'
   obtain ⟨its,r,pl,hz⟩:=I.list hx
   have hlen:=r.length
   exact wpAny_truthy_list pl.isList (by simp only [List.size_toArray]; omega) ⟨H,I.tok _,by rw [jI r]; exact q⟩
  ·subst e'
   obtain ⟨its,r,pl,hz⟩:=I.tuple hx
   have hlen:=r.length
   exact truthy_tuple pl (by simp only [List.size_toArray]; omega) ⟨H,I.tok _,by rw [jI r]; exact q⟩
  ·subst e'
   obtain ⟨hz,hS,vs,r,m⟩:kvs.length ≤ sizeLine ∧ (p == sysModules) = false ∧ ∃ vs,KV kvs vs ∧ s.heap.DictOf (aU X.prog X.w) p vs:=I.hok p _ hx
   have hlen:kvs.length = vs.length:=Paired.length r
   exact wpAny_truthy_dict hS m (by omega) ⟨H,I.tok _,by rw [wU r]; exact q⟩
 | _=>exact (show False from e).elim
theorem vk (ha:PE X a ta) (he:∀ whole,isTrue a X.env whole = (do let v ← whole; standAt a.pos; holding [v] (truthy v))) :
  PT X a (fun σ H Q=>ta σ H fun x H'=>∃ k,I0 X.K x H' k ∧ Q k H'):=by
 intro pins s σ H Q I h
 exact isTrue_plain (bw (ha pins s σ H _ I h) fun v s1 ⟨x,H1,I1,r1,q1⟩=>wV pins s1 σ H1 x v Q I1 r1 q1) (he _)

theorem iH {x:V} (r:aN [x] us):∃ u,us = [u] ∧ aO x u:=by
 cases r with
 | cons r1 r2=>cases r2; exact ⟨_,rfl,r1⟩
theorem Bp {x y:V} (r:aN [x,y] us):∃ u w',us = [u,w'] ∧ aO x u ∧ aO y w':=by
 cases r with
 | cons r1 r2 =>
  cases r2 with
  | cons r3 r4=>cases r4; exact ⟨_,_,rfl,r1,r3⟩
theorem zK (hc:X.calm = true):dy X (.builtin "max") (fun xs H Q=>∃ i j,xs = [.int i,.int j] ∧ Q (.int (if j > i then j else i)) H):=by
 intro pins s σ H xs us Q I r h
 obtain ⟨i,j,rfl,q⟩:=h
 obtain ⟨u,w',rfl,⟨t,rfl⟩,⟨t',rfl⟩⟩:=Bp r
 refine max_two_ints (I.ok.hd hc) fun h' tk k=>⟨_,H,I.kept k,?_,q⟩
 by_cases hj:j > i
 ·rw [if_pos hj,if_pos hj]; exact ⟨_,rfl⟩
 ·rw [if_neg hj,if_neg hj]; exact ⟨_,rfl⟩
theorem zL (hc:X.calm = true):dy X (.builtin "min") (fun xs H Q=>∃ i j,xs = [.int i,.int j] ∧ Q (.int (if j < i then j else i)) H):=by
 intro pins s σ H xs us Q I r h
 obtain ⟨i,j,rfl,q⟩:=h
 obtain ⟨u,w',rfl,⟨t,rfl⟩,⟨t',rfl⟩⟩:=Bp r
 refine min_two_ints (I.ok.hd hc) fun h' tk k=>⟨_,H,I.kept k,?_,q⟩
 by_cases hj:j < i
 ·rw [if_pos hj,if_pos hj]; exact ⟨_,rfl⟩
 ·rw [if_neg hj,if_neg hj]; exact ⟨_,rfl⟩
end
structure wW (h:Heap) (x dx C:Addr) (mA:Str → Option Value):Prop where
 obj:h.get? x = some (PySem.W.instObj C dx)
 ns:h.Ns1 dx mA
 ne:dx ≠ x

theorem zM {h:Heap} {dx:Addr} {mA:Str → Option Value} (n:h.Ns1 dx mA):∃ od,h.get? dx = some od ∧ ∀ name,PySem.W.lookIn name od = some (mA name):=by
 obtain ⟨o,es,ep,ho,hd,hk,_,hm⟩:=n
 refine ⟨o,ho,fun name=>?_⟩
 have e:=hm name
 unfold nsFind findBy at e
 rw [← Array.find?_toList] at e
 unfold PySem.W.lookIn
 rw [hd]
 dsimp only
 split
 ·rename_i y q
  rw [q] at e
  exact congrArg some e
 ·rename_i q
  rw [q] at e
  have a:es.toList.any (·.refKey) = false:=by
   rw [List.any_eq_false]
   intro y hy
   obtain ⟨z,t,hkey⟩:=hk y (Array.mem_toList_iff.mp hy)
   simp [DictEntry.refKey,hkey]
  have a':¬ es.toList.any (·.refKey) = true:=by rw [a]; exact Bool.false_ne_true
  rw [if_neg a']
  exact congrArg some e

theorem wW.look {h:Heap} {x dx C:Addr} {mA:Str → Option Value} (I:wW h x dx C mA):∃ od,PySem.W.InstAt h x (PySem.W.instObj C dx) C (some od) ∧ ∀ name,PySem.W.lookIn name od = some (mA name) :=
 let ⟨od,ho,hl⟩:=zM I.ns
 ⟨od,⟨I.obj,rfl,rfl,ho⟩,hl⟩

section
variable {x dx C f:Addr} {mA:Str → Option Value} {name:Str} {v:Value}
theorem Ek {expr:Bool} {Q:Value → Shared → Prop} (X:K.In s.heap) (I:wW s.heap x dx C mA) (hg:PySem.W.plainGet K C name = true) (hh:PySem.W.hasDictIn K C = true)
  (ha:PySem.W.findIn K (.ref C) name = some none) (hv:mA name = some v) (hv':PySem.W.handedIn v = true) (h:Q v { s with toks:=s.toks + 1 }) :
  wpAny (model prog w) A (getAttr (.ref x) name expr) Q E s:=by
 obtain ⟨od,J,hl⟩:=I.look
 exact PySem.W.get_value X J (PySem.W.plainGet_of hg).1 (PySem.W.findObj_own hh ha rfl (by rw [hl,hv])) hv' h

theorem Bq {pl:Sem Bool} {Q:Value × List Value → Shared → Prop} (X:K.In s.heap) (I:wW s.heap x dx C mA) (hg:PySem.W.plainGet K C name = true)
  (hf:PySem.W.findIn K (.ref C) name = some (some (.ref f))) (ht:PySem.W.isFn K (.ref f) = true) (hv:mA name = none) (h:Q (.ref f,[.ref x]) s) :
  wpAny (model prog w) A (getMethod (.ref x) name pl) Q E s:=by
 obtain ⟨od,J,hl⟩:=I.look
 exact PySem.W.method_fn X J (PySem.W.plainGet_of hg).1 (PySem.W.plainGet_of hg).2 hf (beq_iff_eq.mp ht) (by show (PySem.W.lookIn name od).map (·.isSome) = some false; rw [hl,hv]; rfl) h

theorem El {ns:List Str} {Q:Unit → Shared → Prop} (X:K.In s.heap) (I:wW s.heap x dx C mA)
  (hs:PySem.W.findIn K (.ref C) "__setattr__" = some (some (.builtin "object.__setattr__"))) (hp:PySem.W.plainOver K C = true) (ht:PySem.W.takerIn K C name = some none) (hh:PySem.W.hasDictIn K C = true)
  (hw:PySem.Within mA ns) (hsz:ns.length ≤ sizeLine)
  (h:∀ h',wW h' x dx C (fun y=>if y = name then some v else mA y) → Heap.SameBut dx s.heap h' → Q () { s with heap:=h',toks:=s.toks + 2 }) :
  wpAny (model prog w) A (setAttr (.ref x) name v) Q E s:=by
 obtain ⟨od,J,hl⟩:=I.look
 refine PySem.W.set_plain X J hs (PySem.W.osa_open (s:={ s with toks:=s.toks + 1 }) (r:=none) X J hp ht fun b=>?_)
 obtain ⟨cd,hc,hd'⟩:=PySem.W.any_some hh
 have hx:s.heap.get? x = some ⟨.ref C,some dx,.plain,#[]⟩:=I.obj
 refine wpAny_bind (wpAny_pure (wpAny_bind (wpAny_bind (wpAny_loadPart hx (wpAny_bind (PySem.W.Looks.here (s:={ s with toks:=s.toks + 1 }) (PySem.W.looks_clsIn X hc) ?_))))))
 rw [hd']
 refine wpAny_pure (a:=some dx) (wpAny_bind (wpAny_pure (wpAny_bind ?_)))
 refine wpAny_nsSet1 (s:={ s with toks:=s.toks + 1 }) I.ns fun h' hn2 hs2=>?_
 obtain ⟨oD,esD,epD,hoD,hdD,hcD⟩:=hn2.count (PySem.Within.cons name v hw)
 refine wpAny_bind (wpAny_lookBehind hoD (by rw [hdD]; exact pastItsLine_dict (Nat.le_trans hcD (by rw [List.length_cons]; omega))) ?_)
 exact wpAny_pure (h _ ⟨(hs2.2 _ (Ne.symm I.ne)).trans I.obj,hn2,I.ne⟩ hs2)

theorem vm {R:Result → Shared → Prop} {vs:List Value} {kw:List (Str × Value)} (X:K.In s.heap) (hm:PySem.W.makesIn K C = true)
  (hi:PySem.W.findIn K (.ref C) "__init__" = some (some (.ref f))) (hf:PySem.W.typeIn K (.ref f) = some (.type "function"))
  (h:codeAny (model prog w) (A.under (.builtin "type.__call__" ⟨.ref C :: vs,kw⟩)) (.call (.ref f) ⟨.ref (s.heap.objs.size + 1) :: vs,kw⟩) (PySem.W.InitBack (s.heap.objs.size + 1) R)
   { s with heap:=(s.heap.push PySem.W.emptyDict).push (PySem.W.instObj C s.heap.objs.size) }) :
  codeAny (model prog w) A (.call (.ref C) ⟨vs,kw⟩) R s:=by
 obtain ⟨hh,g,d,t,os⟩:=s
 exact PySem.W.make_core (PySem.W.makes_of X hm) (PySem.W.looks_findIn X hi) (fun self=>PySem.W.bind_fn X self hf) (.inl rfl) h
end
def gW (f:Str) (v:V):List (Str × V) → List (Str × V)
 | []=>[(f,v)]
 | (g,x) :: r=>if g = f then (g,v) :: r else (g,x) :: gW f v r
theorem mx (f g:Str) (v:V):∀ fs:List (Str × V),(gW f v fs).lookup g = if g = f then some v else fs.lookup g
 | []=>by
  show List.lookup g [(f,v)] = _
  by_cases h:g = f
  ·have hb:(g == f) = true:=beq_iff_eq.mpr h
   simp only [List.lookup,hb,if_pos h]
  ·have hb:(g == f) = false:=beq_eq_false_iff_ne.mpr h
   simp only [List.lookup,hb,if_neg h]
 | (k,x) :: r=>by
  have ih:=mx f g v r
  rw [show gW f v ((k,x) :: r) = (if k = f then (k,v) :: r else (k,x) :: gW f v r) from rfl]
  by_cases hk:k = f
  ·rw [if_pos hk]
   by_cases h:g = k
   ·have hb:(g == k) = true:=beq_iff_eq.mpr h
    simp only [List.lookup,hb,if_pos (h.trans hk)]
   ·have hb:(g == k) = false:=beq_eq_false_iff_ne.mpr h
    simp only [List.lookup,hb,if_neg (fun e:g = f=>h (e.trans hk.symm))]
  ·rw [if_neg hk]
   by_cases h:g = k
   ·have hb:(g == k) = true:=beq_iff_eq.mpr h
    simp only [List.lookup,hb,if_neg (fun e:g = f=>hk (h.symm.trans e))]
   ·have hb:(g == k) = false:=beq_eq_false_iff_ne.mpr h
    simp only [List.lookup,hb]
    exact ih
theorem lK (f:Str) (v:V):∀ fs:List (Str × V),f ∈ (gW f v fs).map (·.1) ∧ ∀ g,g ∈ fs.map (·.1) → g ∈ (gW f v fs).map (·.1)
 | []=>⟨by simp [gW],fun g h=>by simp at h⟩
 | (k,x) :: r=>by
  obtain ⟨i1,i2⟩:=lK f v r
  rw [show gW f v ((k,x) :: r) = (if k = f then (k,v) :: r else (k,x) :: gW f v r) from rfl]
  by_cases hk:k = f
  ·rw [if_pos hk]
   subst hk
   exact ⟨by simp,fun g h=>by simpa using h⟩
  ·rw [if_neg hk]
   refine ⟨?_,fun g h=>?_⟩
   ·rw [List.map_cons]
    exact List.mem_cons_of_mem _ i1
   ·rw [List.map_cons] at h ⊢
    rcases List.mem_cons.mp h with e | e
    ·exact List.mem_cons.mpr (.inl e)
    ·exact List.mem_cons_of_mem _ (i2 g e)
theorem my (f:Str) (v:V):∀ fs:List (Str × V),(gW f v fs).length ≤ fs.length + 1
 | []=>by simp [gW]
 | (k,x) :: r=>by
  have ih:=my f v r
  rw [show gW f v ((k,x) :: r) = (if k = f then (k,v) :: r else (k,x) :: gW f v r) from rfl]
  by_cases hk:k = f
  ·rw [if_pos hk,List.length_cons,List.length_cons]; omega
  ·rw [if_neg hk,List.length_cons,List.length_cons]; omega

theorem eV.some_of {v:V} {o:Option Value} (r:eV (some v) o):∃ u,o = some u ∧ aO v u:=by
 cases o with
 | none=>exact (show False from r).elim
 | some u=>exact ⟨u,rfl,r⟩
theorem eV.none_of {o:Option Value} (r:eV none o):o = none:=by
 cases o with
 | none=>rfl
 | some u=>exact (show False from r).elim
theorem zN {v:V} {u:Value} (r:aO v u):PySem.W.handedIn u = true:=by
 cases v with
 | non=>cases (show u = Value.none from r); rfl
 | bl b=>cases (show u = Value.bool b from r); rfl
 | int i=>obtain ⟨t,e⟩:=(show ∃ t,u = Value.int i t from r); cases e; rfl
 | str x=>obtain ⟨t,e⟩:=(show ∃ t,u = Value.str x t from r); cases e; rfl
 | byt b=>obtain ⟨t,e⟩:=(show ∃ t,u = Value.bytes b t from r); cases e; rfl
 | flt b=>obtain ⟨t,e⟩:=(show ∃ t,u = Value.float b t from r); cases e; rfl
 | ref a=>cases (show u = Value.ref a from r); rfl
 | ty n=>cases (show u = Value.type n from r); rfl

section
variable {H H':Hp} {h h':Heap} {a C dx:Addr} {fs fs':List (Str × V)}
theorem nL (hok:iF P w H h) (e:H a = some (.ins C dx fs)):∃ mA,wW h a dx C mA ∧ (∀ f,eV (fs.lookup f) (mA f)) ∧ PySem.Within mA (fs.map (·.1)) ∧ fs.length ≤ 1000 ∧ H dx = some (.own a):=by
 obtain ⟨d,z,ne,ob,mA,n,r,q⟩:=(show cg P w H h a (.ins C dx fs) from hok a _ e)
 exact ⟨mA,⟨ob,n,ne⟩,r,q,z,d⟩
end
structure qq (K:PySem.W.Frag) (C:Addr):Prop where
 pg:PySem.W.plainGet K C Str.empty = true
 hd:PySem.W.hasDictIn K C = true
 po:PySem.W.plainOver K C = true
 sa:PySem.W.findIn K (.ref C) "__setattr__" = some (some (.builtin "object.__setattr__"))
theorem qq.get {C:Addr} (c:qq K C) (f:Str):PySem.W.plainGet K C f = true:=c.pg
def ci (K:PySem.W.Frag) (C:Addr) (f:Str):Prop:=PySem.W.findIn K (.ref C) f = some none
theorem ci.taker {C:Addr} {f:Str} (n:ci K C f):PySem.W.takerIn K C f = some none:=by
 unfold PySem.W.takerIn
 rw [show PySem.W.findIn K (.ref C) f = some none from n]
 rfl
structure vn (K:PySem.W.Frag) (C:Addr) (m:Str) (f:Addr):Prop where
 at_:PySem.W.findIn K (.ref C) m = some (some (.ref f))
 fn:PySem.W.isFn K (.ref f) = true
 kp:PySem.W.keepIn K (.ref f) = true

section
variable {X:Cx} {σ:St} {H:Hp} {a C dx:Addr} {fs:List (Str × V)} {f:Str} {v:V}
theorem wX {b:Bool} {Q:Value → Shared → Prop} (I:aG X pins σ H s) (e:H a = some (.ins C dx fs)) (c:qq X.K C) (n:ci X.K C f) (l:fs.lookup f = some v)
  (h:∀ u s',aG X pins σ H s' → aO v u → Q u s'):wpAny (model X.prog X.w) A (getAttr (.ref a) f b) Q E s:=by
 obtain ⟨mA,O,r,_,_,_⟩:=nL I.hok e
 obtain ⟨u,hu,ru⟩:=eV.some_of (v:=v) (o:=mA f) (by rw [← l]; exact r f)
 exact Ek I.kIn O (c.get f) c.hd n hu (zN ru) (h u _ (I.tok _) ru)

theorem gX {m:Str} {g:Addr} {pl:Sem Bool} {Q:Value × List Value → Shared → Prop} (I:aG X pins σ H s) (e:H a = some (.ins C dx fs)) (c:qq X.K C) (k:vn X.K C m g) (l:fs.lookup m = none)
  (h:Q (.ref g,[.ref a]) s):wpAny (model X.prog X.w) A (getMethod (.ref a) m pl) Q E s:=by
 obtain ⟨mA,O,r,_,_,_⟩:=nL I.hok e
 have hn:mA m = none:=eV.none_of (by rw [← l]; exact r m)
 exact Bq I.kIn O (c.get m) k.at_ k.fn hn h

theorem wY {y:V} {u:Value} {Q:Unit → Shared → Prop} (I:aG X pins σ H s) (e:H a = some (.ins C dx fs)) (c:qq X.K C) (n:ci X.K C f) (hl:fs.length < 1000) (ry:aO y u)
  (h:∀ s',aG X pins σ (upd H a (.ins C dx (gW f y fs))) s' → Q () s'):wpAny (model X.prog X.w) A (setAttr (.ref a) f u) Q E s:=by
 obtain ⟨mA,O,r,wi,_,ho⟩:=nL I.hok e
 have hz:(fs.map (·.1)).length ≤ sizeLine:=by rw [List.length_map,sizeLine_eq]; omega
 refine El I.kIn O c.sa c.po n.taker c.hd wi hz fun h' O' sb=>h _ ?_
 have hd:∃ o,h'.get? dx = some o:=let ⟨o,_,_,e',_⟩:=O'.ns; ⟨o,e'⟩
 refine I.write (x:=a) (e:=dx) (by rw [e]; exact True.intro) (.inr ho) (fun b q hb z=>(sb.2 b hb).trans z) hd ?_
 refine ⟨by rw [am O.ne]; exact ho,?_,O.ne,O'.obj,_,O'.ns,fun g=>?_,fun g hg=>?_⟩
 ·have:=my f y fs; omega
 ·show eV ((gW f y fs).lookup g) (if g = f then some u else mA g)
  rw [mx]
  by_cases q:g = f
  ·rw [if_pos q,if_pos q]; exact ry
  ·rw [if_neg q,if_neg q]; exact r g
 ·by_cases q:g = f
  ·rw [q]; exact (lK f y fs).1
  ·refine (lK f y fs).2 g (wi g fun z=>hg ?_)
   show (if g = f then some u else mA g) = none
   rw [if_neg q]; exact z

theorem aG.made (I:aG X pins σ H s):aG X pins σ (upd (upd H s.heap.objs.size (.own (s.heap.objs.size + 1))) (s.heap.objs.size + 1) (.ins C s.heap.objs.size []))
  { s with heap:=(s.heap.push PySem.W.emptyDict).push (PySem.W.instObj C s.heap.objs.size) }:=by
 have e1:(s.heap.push PySem.W.emptyDict).get? s.heap.objs.size = some PySem.W.emptyDict:=Heap.get?_push_size s.heap rfl
 have e2:((s.heap.push PySem.W.emptyDict).push (PySem.W.instObj C s.heap.objs.size)).get? (s.heap.objs.size + 1) = some (PySem.W.instObj C s.heap.objs.size):=by
  have:=Heap.get?_push_size (s.heap.push PySem.W.emptyDict) (o:=PySem.W.instObj C s.heap.objs.size) rfl
  rwa [Heap.size_push] at this
 have e3:(s.heap.push PySem.W.emptyDict).Ns s.heap.objs.size (fun _=>none):=⟨PySem.W.emptyDict,#[],_,e1,rfl,(fun e he=>absurd he (by simp)),fun _=>rfl⟩
 have I1:=I.laid (a:=s.heap.objs.size) (o:=.own (s.heap.objs.size + 1)) (h':=s.heap.push PySem.W.emptyDict) (t':=s.toks) (fun b u q=>Heap.get?_push_of_some _ q) (Nat.le_refl _) ⟨_,e1⟩
 refine I1.laid (a:=s.heap.objs.size + 1) (o:=.ins C s.heap.objs.size []) (t':=s.toks) (fun b u q=>Heap.get?_push_of_some _ q) (Nat.le_of_eq (Heap.size_push _ _)) ?_
 have ne:s.heap.objs.size ≠ s.heap.objs.size + 1:=Nat.ne_of_lt (Nat.lt_succ_self _)
 refine ⟨by rw [am ne,aC],Nat.zero_le _,ne,e2,fun _=>none,(Heap.Ns1.of_empty e3).at fun o q=>Heap.get?_push_of_some _ q,fun _=>True.intro,fun y hy=>absurd rfl hy⟩

theorem Em {env:Env} {e:Expr} {Q:Value → Shared → Prop} (hb:attributeBase e f env (eval e env) = eval e env)
  (h:wpAny (model prog w) A (eval e env) (fun o s₁=>wpAny (model prog w) A (getAttr o f true) Q E s₁) E s):wpAny (model prog w) A (eval (.Attribute e f pos) env) Q E s :=
 Attribute_any_ h (by rw [arm_eval_Attribute,hb])
end
def Kc (K:PySem.W.Frag) (ta:TE) (f:Str):TE:=fun σ H Q=>ta σ H fun x H1=>∃ a C dx fs v,x = .ref a ∧ H1 a = some (.ins C dx fs) ∧ qq K C ∧ ci K C f ∧ fs.lookup f = some v ∧ Q v H1
def Kd (K:PySem.W.Frag) (ta tv:TE) (f:Str):TS:=fun D σ H=>tv σ H fun y H1=>ta σ H1 fun x H2=>∃ a C dx fs,x = .ref a ∧ H2 a = some (.ins C dx fs) ∧ qq K C ∧ ci K C f ∧ fs.length < 1000 ∧
 D.nx σ (upd H2 a (.ins C dx (gW f y fs)))
section
variable {X:Cx} {o e value:Expr} {f:Str} {pos pos' tpos:Pos} {ta tv:TE}
theorem GN (he:PE X e ta) (hb:attributeBase e f X.env (eval e X.env) = eval e X.env):PE X (.Attribute e f pos) (Kc X.K ta f):=by
 intro pins s σ H Q I h
 refine Em hb (bw (he pins s σ H _ I h) fun u s1 ⟨x,H1,I1,rx,a,C,dx,fs,v,ex,ea,c,n,l,q⟩=>?_)
 subst ex
 obtain rfl:u = Value.ref a:=rx
 exact wX I1 ea c n l fun u' s2 I2 ru=>⟨v,H1,I2,ru,q⟩
theorem GO (ha:PE X o ta) (hv:PE X value tv) (hs:swapsWith value (some (.Attribute o f pos')) pos.line X.env = pure false):PS X (.Assign [.Attribute o f pos'] value pos) (Kd X.K ta tv f):=by
 intro pins s σ H D I h
 refine plainObj_wpAny_Assign_Attribute (bw (hv pins s σ H _ I h) fun u s1 ⟨y,H1,I1,ry,q⟩=>bw (ha pins s1 σ H1 _ I1 q) fun ov s2 ⟨x,H2,I2,rx,a,C,dx,fs,ex,ea,c,n,l,q2⟩=>?_) hs
 subst ex
 obtain rfl:ov = Value.ref a:=rx
 exact wY I2 ea c n l ry fun s3 I3=>⟨σ,_,I3,q2⟩
theorem FR {pl:Sem Bool} {m:Str} {apos:Pos} {args:List Expr} {σ:St} {H:Hp} {Q:Value → Shared → Prop} {te:TE} (he:PE X e te) (I:aG X pins σ H s)
  (h:te σ H fun x H1=>∃ a C dx fs g,x = .ref a ∧ H1 a = some (.ins C dx fs) ∧ qq X.K C ∧ vn X.K C m g ∧ fs.lookup m = none ∧
   ∀ s1,aG X pins σ H1 s1 → wpAny (model X.prog X.w) X.A (callWith pos (.ref g) [.ref a] (backTo pos (starEach args X.env)) (backToKw pos (keywordEach [] X.env))) Q X.xe s1)
  (ht:eval (.Call (.Attribute e m apos) args [] pos) X.env = (do
   let ov ← eval e X.env
   standAt apos.atName
   let (f,first) ← holding [ov] (getMethod ov m pl)
   callWith pos f first (backTo pos (starEach args X.env)) (backToKw pos (keywordEach [] X.env)))) :
  wpAny (model X.prog X.w) X.A (eval (.Call (.Attribute e m apos) args [] pos) X.env) Q X.xe s:=by
 refine PySem.W.methodCall_KW (pl:=pl) (bw (he pins s σ H _ I h) fun u s1 ⟨x,H1,I1,rx,a,C,dx,fs,g,ex,ea,c,k,l,q⟩=>?_) ht
 subst ex
 obtain rfl:u = Value.ref a:=rx
 exact gX I1 ea c k l (q s1 I1)
end
section
variable {X:Cx} {σ:St} {H:Hp} {Q:Value → Shared → Prop} {c:Value} {b:Bool}
inductive lM (K:PySem.W.Frag) (H:Hp):V → Value → Prop where
 | non:lM K H .non (.type "NoneType")
 | bl (x:Bool):lM K H (.bl x) (.type "bool")
 | int (i:Int):lM K H (.int i) (.type "int")
 | str (x:Str):lM K H (.str x) (.type "str")
 | flt (x:UInt64):lM K H (.flt x) (.type "float")
 | lst {a:Addr} {xs:List V} (e:H a = some (.lst xs)):lM K H (.ref a) (.type "list")
 | frz {a:Addr} {o:Obj} {xs:List V} (e:H a = some (.frz o (.lst xs))):lM K H (.ref a) (.type "list")
 | tup {a:Addr} {xs:List V} (e:H a = some (.tup xs)):lM K H (.ref a) (.type "tuple")
 | dK {a:Addr} {kvs:List (bj × V)} (e:H a = some (.dK kvs)):lM K H (.ref a) (.type "dict")
 | dT {a:Addr} {kvs:List (List bj × V)} (e:H a = some (.dT kvs)):lM K H (.ref a) (.type "dict")
 | ins {a C dx:Addr} {fs:List (Str × V)} (e:H a = some (.ins C dx fs)) (cl:qq K C) (ha:PySem.W.findIn K (.ref C) "__class__" = some (some (.builtin "object.__class__")))
   (hn:PySem.W.specialIn K (.builtin "object.__class__") "__get__" = some (some (.builtin "getset_descriptor.__get__"))) (htk:PySem.W.takesIn K (.builtin "object.__class__") = some true)
   (hm:PySem.W.mroIn K C (.type "object") = some true):lM K H (.ref a) (.ref C)
theorem zO {x:V} {u t:Value} (I:aG X pins σ H s) (rx:aO x u) (ty:lM X.K H x t) (e:PySem.W.kitOne X.K t c = some b) (h:∀ tk,Q (.bool b) { s with toks:=tk }) :
  wpAny (model X.prog X.w) A (call (.builtin "isinstance") [u,c]) Q E s:=by
 cases ty with
 | non=>cases (show u = Value.none from rx); exact PySem.W.kia_one PySem.W.kitx_none I.kIn True.intro e (fun z=>nomatch z) h
 | bl y=>cases (show u = Value.bool y from rx); exact PySem.W.kia_one PySem.W.kitx_bool I.kIn True.intro e (fun z=>nomatch z) h
 | int i=>obtain ⟨t,q⟩:=(show ∃ t,u = Value.int i t from rx); cases q; exact PySem.W.kia_one PySem.W.kitx_int I.kIn True.intro e (fun z=>nomatch z) h
 | str y=>obtain ⟨t,q⟩:=(show ∃ t,u = Value.str y t from rx); cases q; exact PySem.W.kia_one PySem.W.kitx_str I.kIn True.intro e (fun z=>nomatch z) h
 | flt y=>obtain ⟨t,q⟩:=(show ∃ t,u = Value.float y t from rx); cases q; exact PySem.W.kia_one PySem.W.kitx_float I.kIn True.intro e (fun z=>nomatch z) h
 | @lst a xs ea =>
  cases (show u = Value.ref a from rx)
  obtain ⟨_,_,n,_,h1⟩:=(show cg X.prog X.w H s.heap a (.lst xs) from I.hok a _ ea)
  exact PySem.W.kia_one PySem.W.kitx_list I.kIn ⟨_,h1,rfl⟩ e (fun z=>nomatch z) h
 | @frz a ob xs ea =>
  cases (show u = Value.ref a from rx)
  obtain ⟨_,_,_,n,_,h1⟩:=(show cg X.prog X.w H s.heap a (.frz ob (.lst xs)) from I.hok a _ ea)
  exact PySem.W.kia_one PySem.W.kitx_list I.kIn ⟨_,h1,rfl⟩ e (fun z=>nomatch z) h
 | @tup a xs ea =>
  cases (show u = Value.ref a from rx)
  obtain ⟨_,_,_,p⟩:=(show cg X.prog X.w H s.heap a (.tup xs) from I.hok a _ ea)
  obtain ⟨o,h1,h2,_⟩:=p
  exact PySem.W.kia_one PySem.W.kitx_tuple I.kIn ⟨o,h1,h2⟩ e (fun z=>nomatch z) h
 | @dK a kvs ea =>
  cases (show u = Value.ref a from rx)
  obtain ⟨_,_,vs,_,p⟩:=(show cg X.prog X.w H s.heap a (.dK kvs) from I.hok a _ ea)
  obtain ⟨o,es,ep,h1,h2,_⟩:=p
  exact PySem.W.kia_one PySem.W.kitx_dict I.kIn ⟨o,h1,h2.1⟩ e (fun z=>nomatch z) h
 | @dT a kvs ea =>
  cases (show u = Value.ref a from rx)
  obtain ⟨_,_,xs,_,o,es,ep,h1,h2,_⟩:=(show cg X.prog X.w H s.heap a (.dT kvs) from I.hok a _ ea)
  exact PySem.W.kia_one PySem.W.kitx_dict I.kIn ⟨o,h1,h2.1⟩ e (fun z=>nomatch z) h
 | @ins a C dx fs ea cl ha hn htk hm =>
  cases (show u = Value.ref a from rx)
  obtain ⟨mA,O,_⟩:=nL I.hok ea
  obtain ⟨od,J,_⟩:=O.look
  exact PySem.W.kia_one (PySem.W.kitx_own (cl.get _) cl.hd ha hn htk hm) I.kIn J e (fun z=>nomatch z) h
end
structure bQ (k:Nat) (A:Around):Prop where
 hd:A.handled = none
 dp:A.depth + 3 * k + 5 < recursionLimit
 un:A.units + 16 * k + 200 < cLine
theorem bQ.mono {j k:Nat} (r:bQ k A) (h:j ≤ k):bQ j A:=⟨r.hd,by have:=r.dp; omega,by have:=r.un; omega⟩
theorem bQ.deeper {k:Nat} (r:bQ (k + 1) A) (env:Env):bQ k (A.deeper env) :=
 ⟨r.hd,by have:=r.dp; show A.depth + 1 + 3 * k + 5 < _; omega,by have:=r.un; show A.units + 3 + 16 * k + 200 < _; omega⟩
theorem bQ.in1 {k:Nat} (r:bQ (k + 1) A):bQ k A.in1 :=
 ⟨r.hd,by have:=r.dp; show A.depth + 3 * k + 5 < _; omega,by have:=r.un; show A.units + 1 + 16 * k + 200 < _; omega⟩
theorem wZ {C:Addr} {kw:List (Str × Value)}:(A.under (.builtin "type.__call__" ⟨.ref C :: us,kw⟩)).depth = A.depth + 1:=by
 first | rfl | simp [Around.under,Code.weight,Code.isCreation,Code.isGuard,Code.isCaller,Code.frames,Code.isFrame,guardIds]
theorem w4 {C:Addr} {kw:List (Str × Value)}:(A.under (.builtin "type.__call__" ⟨.ref C :: us,kw⟩)).units = A.units + 1:=by
 first | rfl | simp [Around.under,Code.cUnits,Code.frames,Code.isFrame]
theorem bQ.make {k:Nat} (r:bQ (k + 1) A) (C:Addr) (us:List Value) (kw:List (Str × Value)):bQ k (A.under (.builtin "type.__call__" ⟨.ref C :: us,kw⟩)) :=
 ⟨r.hd,by have:=r.dp; rw [wZ]; omega,by have:=r.un; rw [w4]; omega⟩
theorem bQ.depth {k:Nat} (r:bQ k A):A.depth < recursionLimit:=by have:=r.dp; omega
theorem bQ.units {k:Nat} (r:bQ k A):A.units + 64 < cLine:=by have:=r.un; omega
def oo:TA:=fun _ H Q=>Q [] H
def oq (ta:TE) (tr:TA):TA:=fun σ H Q=>ta σ H fun x H1=>tr σ H1 fun xs H2=>Q (x :: xs) H2
section
variable {X:Cx} {e:Expr} {te:TE} {t:TA}
theorem jJ:PA X [] oo:=fun _ _ _ _ H Q I h=>Calls.spliced_nil ⟨[],H,I,.nil,h⟩
theorem fW (ha:PE X e te) (hr:PA X es t) (hs:starEach (e :: es) X.env = (false,eval e X.env) :: starEach es X.env:=by with_unfolding_all rfl):PA X (e :: es) (oq te t):=by
 intro pos pins s σ H Q I h
 rw [hs]
 show wpAny _ _ (spliced ((false,eval e X.env) :: backTo pos (starEach es X.env))) _ _ s
 refine Calls.spliced_cons (bw (ha pins s σ H _ I h) fun u s1 ⟨x,H1,I1,r1,q1⟩=>?_)
 exact bw (hr pos pins s1 σ H1 _ I1 q1) fun us s2 ⟨xs,H2,I2,r2,q2⟩=>⟨x :: xs,H2,I2,.cons r1 r2,q2⟩

def Ke (t:TA):TE:=fun σ H Q=>t σ H fun xs H1=>xs.length ≤ sizeLine ∧ ∀ p,H1 p = none → Q (.ref p) (upd H1 p (.tup xs))
def Kf (t:TA):TE:=fun σ H Q=>t σ H fun xs H1=>xs.length ≤ sizeLine ∧ ∀ p,H1 p = none → Q (.ref p) (upd H1 p (.lst xs))
theorem GP {x1} (h:PA X es t):PE X (.Tuple es x1 pos) (Ke t):=by
 intro pins s σ H Q I hq
 refine wpAny_Tuple_spliced (bw (h pos pins s σ H _ I hq) fun us s1 ⟨xs,H1,I1,r,z,q⟩=>⟨by rw [← r.length]; exact z,?_⟩)
 have hf:H1 s1.heap.objs.size = none:=I1.hok.fresh (Nat.le_refl _)
 refine ⟨.ref s1.heap.objs.size,upd H1 s1.heap.objs.size (.tup xs),I1.laid (t':=s1.toks) (fun b u e=>Heap.get?_push_of_some _ e) (Nat.le_refl _) ?_,rfl,q _ hf⟩
 exact ⟨z,us,r,⟨_,Heap.get?_push_size _ rfl,rfl,_,rfl⟩⟩
theorem GQ (h:PA X es t):PE X (.List es pos) (Kf t):=by
 intro pins s σ H Q I hq
 refine wpAny_List_spliced (bw (h pos pins s σ H _ I hq) fun us s1 ⟨xs,H1,I1,r,z,q⟩=>⟨by rw [← r.length]; exact z,?_⟩)
 have hf:H1 s1.heap.objs.size = none:=I1.hok.fresh (Nat.le_refl _)
 refine ⟨.ref s1.heap.objs.size,upd H1 s1.heap.objs.size (.lst xs),I1.laid (t':=s1.toks) (fun b u e=>Heap.get?_push_of_some _ e) (Nat.le_refl _) ?_,rfl,q _ hf⟩
 exact ⟨z,us,0,r,Heap.get?_push_size _ rfl⟩
end
abbrev Sp:=List V → Hp → VK → XK → Prop
abbrev tz:=List Env → Hp → Shared → XK → Value → Shared → Prop

structure m7 (P:Program) (w:World) (K:PySem.W.Frag) (mg:Str → Option Value) (base:Heap) (A:Around) (outer:List Env) (s:Shared) (H:Hp):Prop where
 frames:A.frames = some outer
 mod:Mod K mg base
 bs:∀ b o,base.get? b = some o → s.heap.get? b = some o ∧ H b = none
 bsz:base.objs.size ≤ s.heap.objs.size
 funs:s.heap.FunFrames base outer
 frf:∀ b ∈ vd outer,H b = none
 hok:iF P w H s.heap
 bare:AllBare s.gens
def CE (outer:List Env) (P:Program) (w:World) (H:Hp) (s:Shared) (Q:VK) (u:Value) (s':Shared):Prop :=
 ∃ v H',s'.os = s.os ∧ AllBare s'.gens ∧ Un (vd outer) [] H H' s.heap s'.heap ∧ iF P w H' s'.heap ∧ aO v u ∧ Q v H'
def CR (CX:tz) (outer:List Env) (P:Program) (w:World) (H:Hp) (s:Shared) (Q:VK) (E:XK) (r:Result) (s':Shared):Prop :=
 match r with
 | .ok (.ret u)=>CE outer P w H s Q u s'
 | .ok _=>False
 | .error e=>CX outer H s E e s'
structure db (P:Program) (w:World) (K:PySem.W.Frag) (mg:Str → Option Value) (base:Heap) (CX:tz) (k:Nat) (f:Addr) (fd:FuncData) (ps:List Str) (sp:Sp):Prop where
 len:∀ vs H Q E,sp vs H Q E → vs.length = ps.length
 run:∀ (A:Around) (outer:List Env) (s:Shared) (H:Hp) (args:Args) (us:List Value) (vs:List V) (Q:VK) (E:XK),bQ k A → m7 P w K mg base A outer s H → BindsTo s fd args (ps.zip us) → aN vs us → sp vs H Q E →
  codeAny (model P w) A (.call (.ref f) args) (CR CX outer P w H s Q E) s
theorem db.mono {CX:tz} {j k:Nat} {f:Addr} {ps:List Str} {sp:Sp} (F:db P w K mg base CX j f fd ps sp) (h:j ≤ k) :
  db P w K mg base CX k f fd ps sp:=⟨F.len,fun A outer s H args us vs Q E hr=>F.run A outer s H args us vs Q E (hr.mono h)⟩
theorem m7.make {outer:List Env} {H:Hp} (e:m7 P w K mg base A outer s H) (C:Addr) (us:List Value) (kw:List (Str × Value)) :
  m7 P w K mg base (A.under (.builtin "type.__call__" ⟨.ref C :: us,kw⟩)) outer s H:=⟨by first | exact e.frames | (simpa [Around.under,Code.envs,Code.isFrame,pushEnvs] using e.frames),e.mod,e.bs,e.bsz,e.funs,e.frf,e.hok,e.bare⟩
theorem m7.in1 {outer:List Env} {H:Hp} (e:m7 P w K mg base A outer s H) :
  m7 P w K mg base A.in1 outer s H:=⟨e.frames,e.mod,e.bs,e.bsz,e.funs,e.frf,e.hok,e.bare⟩

section
variable {X:Cx} {σ:St} {H:Hp} {s s':Shared}
theorem aG.env0 (I:aG X pins σ H s):m7 X.prog X.w X.K X.mg X.base X.A X.stack s H :=
 ⟨I.ok.frames,I.ok.mod,I.bs,Nat.le_trans I.ok.bsz I.sz,I.stack,I.stkFree,I.hok,I.bare⟩
theorem aG.after {Q:VK} {u:Value} (I:aG X pins σ H s) (h:CE X.stack X.prog X.w H s Q u s'):EP X pins σ Q u s':=by
 obtain ⟨v,H',os,bare,un,hok,r,q⟩:=h
 obtain ⟨hh,g,d,t,os'⟩:=s'
 obtain rfl:os' = s.os:=os
 exact ⟨v,H',I.call (h':=hh) (g':=g) (d':=d) (t':=t) (ch:=[]) un hok bare (fun b z=>absurd z (by simp)),r,q⟩
end
def mz (sp:Sp) (dvs:List V) (E:XK) (t:TA):TE:=fun σ H Q=>t σ H fun vs H1=>sp (vs ++ dvs) H1 Q E
def Br (C:Addr) (m:Str) (sp:Sp) (dvs:List V) (E:XK) (ta:TE) (t:TA):TE:=fun σ H Q=>ta σ H fun x H1=>∃ a dx fs,x = .ref a ∧ H1 a = some (.ins C dx fs) ∧ fs.lookup m = none ∧
 t σ H1 fun vs H2=>sp (x :: (vs ++ dvs)) H2 Q E
def FS (C:Addr) (sp:Sp) (dvs:List V) (E:XK) (t:TA):TE:=fun σ H Q=>t σ H fun vs H1=>∀ x dx,H1 x = none → H1 dx = none → dx ≠ x →
 sp (.ref x :: (vs ++ dvs)) (upd (upd H1 dx (.own x)) x (.ins C dx [])) (fun v H2=>v = .non ∧ Q (.ref x) H2) E

def dH (K:PySem.W.Frag) (fd:FuncData) (ps:List Str) (ds:List Value):Prop :=
 ∀ (s:Shared) (us:List Value),K.In s.heap → (us ++ ds).length = ps.length → BindsTo s fd ⟨us,[]⟩ (ps.zip (us ++ ds))
theorem dH.all {ps:List Str} (h:∀ us:List Value,us.length = ps.length → bindArgs fd ⟨us,[]⟩ = pure (ps.zip us)):dH K fd ps []:=fun s us _ hl=>by
 rw [List.append_nil] at hl ⊢
 exact .of_eq (h us hl)

def cW (CX:tz) (X:Cx) (E:XK):Prop:=∀ (pins:List (Addr × Obj)) (σ:St) (H:Hp) (s:Shared) (e:Value) (s':Shared),aG X pins σ H s → CX X.stack H s E e s' → X.xe e s'

section
variable {X:Cx} {CX:tz} {k:Nat} {f C:Addr} {ps:List Str} {sp:Sp} {dvs:List V} {ds:List Value} {E:XK} {x m:Str} {p pos apos:Pos} {e o:Expr} {ta:TE} {t:TA}
theorem ou {σ:St} {H:Hp} {Q:VK} {vs:List V} (F:db X.prog X.w X.K X.mg X.base CX k f fd ps sp) (hr:bQ k X.A) (hb:dH X.K fd ps ds) (hd:aN dvs ds) (hx:cW CX X E)
  (I:aG X pins σ H s) (r:aN vs us) (h:sp (vs ++ dvs) H Q E):wpAny (model X.prog X.w) X.A (call (.ref f) us) (EP X pins σ Q) X.xe s:=by
 have r2:aN (vs ++ dvs) (us ++ ds):=r.append hd
 have hl:(us ++ ds).length = ps.length:=by rw [← r2.length]; exact F.len _ _ _ _ h
 refine wpAny_call (codeAny_mono (F.run X.A X.stack s H ⟨us,[]⟩ (us ++ ds) (vs ++ dvs) Q E hr I.env0 (hb s us I.kIn hl) r2 h) fun r s' hq=>?_)
 cases r with
 | error e=>exact hx pins σ H s e s' I hq
 | ok fl =>
  cases fl with
  | ret u=>exact I.after hq
  | next=>exact False.elim hq
  | brk=>exact False.elim hq
  | cont=>exact False.elim hq

theorem yp (F:db X.prog X.w X.K X.mg X.base CX k f fd ps sp) (hr:bQ k X.A) (hg:Gl X x) (hm:X.mg x = some (.ref f)) (hk:PySem.W.keepIn X.K (.ref f) = true) (hb:dH X.K fd ps ds) (hd:aN dvs ds) (hx:cW CX X E)
  (ha:PA X (e :: es) t) (hdb:(x == ("__debug__":Str)) = false:=by decide) (he:starEach (e :: es) X.env = (false,eval e X.env) :: starEach es X.env:=by with_unfolding_all rfl) (hpl:(backTo pos (starEach es X.env)).any (·.1) = false:=by with_unfolding_all rfl) :
  PE X (.Call (.Name x p) (e :: es) [] pos) (mz sp dvs E t):=by
 intro pins s σ H Q I h
 refine wpAny_Call_Name_kw (gU I hg hm ?_ hdb)
 refine PySem.W.callWith_K (h₀:=X.base) I.ok.mod.kin hk (bw (ha pos pins s σ H _ I h) fun us s1 ⟨vs,H1,I1,r,q⟩=>⟨I1.kIn,?_⟩) he hpl
 exact ou F hr hb hd hx I1 r q
theorem Bs (F:db X.prog X.w X.K X.mg X.base CX k f fd ps sp) (hr:bQ k X.A) (hg:Gl X x) (hm:X.mg x = some (.ref f)) (hk:PySem.W.keepIn X.K (.ref f) = true) (hb:dH X.K fd ps ds) (hd:aN dvs ds) (hx:cW CX X E)
  (hdb:(x == ("__debug__":Str)) = false:=by decide):PE X (.Call (.Name x p) [] [] pos) (mz sp dvs E oo):=by
 intro pins s σ H Q I h
 refine wpAny_Call_Name_kw (gU I hg hm ?_ hdb)
 exact PySem.W.callWith_K0 I.kIn hk (ou (us:=[]) F hr hb hd hx I .nil h)

theorem En {pl:Sem Bool} (he:PE X o ta) (c:qq X.K C) (hm:vn X.K C m f) (F:db X.prog X.w X.K X.mg X.base CX k f fd ps sp) (hr:bQ k X.A) (hb:dH X.K fd ps ds) (hd:aN dvs ds) (hx:cW CX X E) (ha:PA X (e :: es) t)
  (hst:starEach (e :: es) X.env = (false,eval e X.env) :: starEach es X.env:=by with_unfolding_all rfl) (hpl:(backTo pos (starEach es X.env)).any (·.1) = false:=by with_unfolding_all rfl)
  (ht:eval (.Call (.Attribute o m apos) (e :: es) [] pos) X.env = (do
   let ov ← eval o X.env
   standAt apos.atName
   let (f,first) ← holding [ov] (getMethod ov m pl)
   callWith pos f first (backTo pos (starEach (e :: es) X.env)) (backToKw pos (keywordEach [] X.env))):=by with_unfolding_all rfl) :
  PE X (.Call (.Attribute o m apos) (e :: es) [] pos) (Br C m sp dvs E ta t):=by
 intro pins s σ H Q I h
 refine PySem.W.methodCall_KW (pl:=pl) (bw (he pins s σ H _ I h) fun u s1 ⟨x,H1,I1,rx,a,dx,fs,ex,ea,l,q⟩=>?_) ht
 subst ex
 obtain rfl:u = Value.ref a:=rx
 refine gX I1 ea c hm l ?_
 refine PySem.W.callWith_K (first:=[.ref a]) (h₀:=X.base) I.ok.mod.kin hm.kp (bw (ha pos pins s1 σ H1 _ I1 q) fun us s2 ⟨vs,H2,I2,r,q2⟩=>⟨I2.kIn,?_⟩) hst hpl
 exact ou (us:=.ref a :: us) (vs:=.ref a :: vs) F hr hb hd hx I2 (.cons rfl r) q2
theorem Bt {pl:Sem Bool} (he:PE X o ta) (c:qq X.K C) (hm:vn X.K C m f) (F:db X.prog X.w X.K X.mg X.base CX k f fd ps sp) (hr:bQ k X.A) (hb:dH X.K fd ps ds) (hd:aN dvs ds) (hx:cW CX X E)
  (ht:eval (.Call (.Attribute o m apos) [] [] pos) X.env = (do
   let ov ← eval o X.env
   standAt apos.atName
   let (f,first) ← holding [ov] (getMethod ov m pl)
   callWith pos f first (backTo pos (starEach [] X.env)) (backToKw pos (keywordEach [] X.env))):=by with_unfolding_all rfl) :
  PE X (.Call (.Attribute o m apos) [] [] pos) (Br C m sp dvs E ta oo):=by
 intro pins s σ H Q I h
 refine PySem.W.methodCall_KW (pl:=pl) (bw (he pins s σ H _ I h) fun u s1 ⟨x,H1,I1,rx,a,dx,fs,ex,ea,l,q⟩=>?_) ht
 subst ex
 obtain rfl:u = Value.ref a:=rx
 refine gX I1 ea c hm l ?_
 exact PySem.W.callWith_K0 (first:=[.ref a]) I1.kIn hm.kp (ou (us:=[.ref a]) (vs:=[.ref a]) F hr hb hd hx I1 (.cons rfl .nil) q)

structure Mk (K:PySem.W.Frag) (C f:Addr):Prop where
 makes:PySem.W.makesIn K C = true
 init:PySem.W.findIn K (.ref C) "__init__" = some (some (.ref f))
 fn:PySem.W.isFn K (.ref f) = true
 kp:PySem.W.keepIn K (.ref C) = true

theorem Bu {σ:St} {H:Hp} {Q:VK} {vs:List V} (M:Mk X.K C f) (F:db X.prog X.w X.K X.mg X.base CX k f fd ps sp) (hr:bQ (k + 1) X.A) (hb:dH X.K fd ps ds) (hd:aN dvs ds)
  (hx:cW CX X E) (I:aG X pins σ H s) (r:aN vs us)
  (h:∀ x dx,H x = none → H dx = none → dx ≠ x → sp (.ref x :: (vs ++ dvs)) (upd (upd H dx (.own x)) x (.ins C dx [])) (fun v H2=>v = .non ∧ Q (.ref x) H2) E) :
  wpAny (model X.prog X.w) X.A (call (.ref C) us) (EP X pins σ Q) X.xe s:=by
 have hq:=h (s.heap.objs.size + 1) s.heap.objs.size (I.hok.fresh (Nat.le_succ _)) (I.hok.fresh (Nat.le_refl _)) (Nat.ne_of_lt (Nat.lt_succ_self _))
 have I2:=aG.made (C:=C) I
 have r2:aN (V.ref (s.heap.objs.size + 1) :: (vs ++ dvs)) (Value.ref (s.heap.objs.size + 1) :: (us ++ ds)):=.cons rfl (r.append hd)
 have hl:(Value.ref (s.heap.objs.size + 1) :: us ++ ds).length = ps.length:=by
  have e:=r2.length
  rw [F.len _ _ _ _ hq] at e
  exact e.symm
 refine wpAny_call (vm (f:=f) I.kIn M.makes M.init (beq_iff_eq.mp M.fn) (codeAny_mono (F.run _ X.stack _ _ ⟨Value.ref (s.heap.objs.size + 1) :: us,[]⟩ (Value.ref (s.heap.objs.size + 1) :: (us ++ ds)) _ _ E (hr.make C us [])
  (I2.env0.make C us []) (hb _ (Value.ref (s.heap.objs.size + 1) :: us) I2.kIn hl) r2 hq) fun r s' hq'=>?_))
 cases r with
 | error e=>exact hx pins σ _ _ e s' I2 hq'
 | ok fl =>
  cases fl with
  | ret u =>
   obtain ⟨v,H',I3,rv,ev,q3⟩:=I2.after hq'
   subst ev
   exact ⟨rv,⟨V.ref (s.heap.objs.size + 1),H',I3,rfl,q3⟩⟩
  | next=>exact False.elim hq'
  | brk=>exact False.elim hq'
  | cont=>exact False.elim hq'
theorem Eo (M:Mk X.K C f) (F:db X.prog X.w X.K X.mg X.base CX k f fd ps sp) (hr:bQ (k + 1) X.A) (hg:Gl X x) (hm:X.mg x = some (.ref C)) (hb:dH X.K fd ps ds) (hd:aN dvs ds) (hx:cW CX X E)
  (ha:PA X (e :: es) t) (hdb:(x == ("__debug__":Str)) = false:=by decide) (he:starEach (e :: es) X.env = (false,eval e X.env) :: starEach es X.env:=by with_unfolding_all rfl) (hpl:(backTo pos (starEach es X.env)).any (·.1) = false:=by with_unfolding_all rfl) :
  PE X (.Call (.Name x p) (e :: es) [] pos) (FS C sp dvs E t):=by
 intro pins s σ H Q I h
 refine wpAny_Call_Name_kw (gU I hg hm ?_ hdb)
 refine PySem.W.callWith_K (h₀:=X.base) I.ok.mod.kin M.kp (bw (ha pos pins s σ H _ I h) fun us s1 ⟨vs,H1,I1,r,q⟩=>⟨I1.kIn,?_⟩) he hpl
 exact Bu M F hr hb hd hx I1 r q
end
def PK (X:Cx) (kws:List Keyword) (t:TA):Prop :=
 ∀ (pos:Pos) (pins:List (Addr × Obj)) (s:Shared) (σ:St) (H:Hp) (Q:List V → Hp → Prop),aG X pins σ H s → t σ H Q → wpAny (model X.prog X.w) X.A (evalAll ((backToKw pos (keywordEach kws X.env)).map (·.2))) (AP X pins σ Q) X.xe s
section
variable {X:Cx} {CX:tz} {k:Nat} {f C:Addr} {ps ks:List Str} {sp:Sp} {E:XK} {x m:Str} {p pos apos kpos:Pos} {e o:Expr} {kws:List Keyword} {te ta:TE} {t tk:TA} {nm:Option Str}
theorem GR:PK X [] oo:=fun _ _ _ _ H Q I h=>wpAny_evalAll_nil ⟨[],H,I,.nil,h⟩
theorem Ep (ha:PE X e te) (hr:PK X kws t):PK X (⟨nm,e,kpos⟩ :: kws) (oq te t):=by
 intro pos pins s σ H Q I h
 show wpAny _ _ (evalAll ((do let v ← eval e X.env; standAt pos; pure v) :: (backToKw pos (keywordEach kws X.env)).map (·.2))) _ _ s
 refine wpAny_evalAll_cons (wpAny_bind (bw (ha pins s σ H _ I h) fun u s1 ⟨x,H1,I1,r1,q1⟩=>wpAny_bind (wpAny_standAt (wpAny_pure ?_))))
 exact bw (hr pos pins s1 σ H1 _ I1 q1) fun us s2 ⟨xs,H2,I2,r2,q2⟩=>⟨x :: xs,H2,I2,.cons r1 r2,q2⟩

variable {g:List Value → List Value → List Value} {gV:List V → List V → List V}
end
structure al (N P:List Str) (sc:Scope):Prop where
 kind:sc.kind = .function
 co:sc.isCoroutine = false
 gen:sc.isGenerator = false
 nd:N.Nodup
 pre:N.take P.length = P
 par:∀ x ∈ P,sc.names.lookup x = some .local ∨ sc.names.lookup x = some .cell
 nofree:∀ y ∈ sc.names,y.2 ≠ .free

theorem rN {kindOf:Str → Option NameKind} {x:Str}:∀ {binds:List (Str × Value)} {m:Str → Option Value},(∀ v,(x,v) ∉ binds) → bindL kindOf binds m x = m x
 | [],_,_=>rfl
 | (n,v) :: r,m,h=>by
  unfold bindL
  rw [rN fun w hw=>h w (List.mem_cons_of_mem _ hw)]
  split
  ·have:x ≠ n:=by rintro rfl; exact h v List.mem_cons_self
   simp [this]
  ·rfl
theorem rO {kindOf:Str → Option NameKind} {x:Str}:∀ {binds:List (Str × Value)} {m:Str → Option Value},(∀ v,(x,v) ∉ binds) → bindC kindOf binds m x = m x
 | [],_,_=>rfl
 | (n,v) :: r,m,h=>by
  unfold bindC
  rw [rO fun w hw=>h w (List.mem_cons_of_mem _ hw)]
  split
  ·rfl
  ·have:x ≠ n:=by rintro rfl; exact h v List.mem_cons_self
   simp [this]
theorem rP {kindOf:Str → Option NameKind} {x:Str} {v:Value}:∀ {P:List Str} {vs:List Value} {i:Nat} {m:Str → Option Value},P.Nodup → P[i]? = some x → vs[i]? = some v → kindOf x = some .local →
  bindL kindOf (P.zip vs) m x = some v
 | [],_,_,_,_,h,_,_=>by simp at h
 | _ :: _,[],_,_,_,_,h,_=>by simp at h
 | p :: P,w :: vs,0,m,nd,h1,h2,hk=>by
  simp at h1 h2; subst h1; subst h2
  show bindL kindOf ((p,w) :: P.zip vs) m p = _
  unfold bindL
  rw [rN fun v hv=>(List.nodup_cons.mp nd).1 (List.of_mem_zip hv).1,if_pos hk]
  simp
 | p :: P,w :: vs,i + 1,m,nd,h1,h2,hk=>by
  show bindL kindOf ((p,w) :: P.zip vs) m x = _
  unfold bindL
  exact rP (i:=i) (List.nodup_cons.mp nd).2 (by simpa using h1) (by simpa using h2) hk
theorem rQ {kindOf:Str → Option NameKind} {x:Str} {v:Value}:∀ {P:List Str} {vs:List Value} {i:Nat} {m:Str → Option Value},P.Nodup → P[i]? = some x → vs[i]? = some v → kindOf x ≠ some .local →
  bindC kindOf (P.zip vs) m x = some v
 | [],_,_,_,_,h,_,_=>by simp at h
 | _ :: _,[],_,_,_,_,h,_=>by simp at h
 | p :: P,w :: vs,0,m,nd,h1,h2,hk=>by
  simp at h1 h2; subst h1; subst h2
  show bindC kindOf ((p,w) :: P.zip vs) m p = _
  unfold bindC
  rw [rO fun v hv=>(List.nodup_cons.mp nd).1 (List.of_mem_zip hv).1,if_neg hk]
  simp
 | p :: P,w :: vs,i + 1,m,nd,h1,h2,hk=>by
  show bindC kindOf ((p,w) :: P.zip vs) m x = _
  unfold bindC
  exact rQ (i:=i) (List.nodup_cons.mp nd).2 (by simpa using h1) (by simpa using h2) hk

def ii (N:List Str) (vs:List V):St:=vs.map some ++ List.replicate (N.length - vs.length) none

@[reducible] def m8 (CX:tz) (P:Program) (w:World) (K:PySem.W.Frag) (mg:Str → Option Value) (base:Heap) (N:List Str) (qual:Str) (scope:Scope) (f:Addr) (cd:Value) (A:Around) (outer:List Env) (s:Shared) (H:Hp) (E:XK):Cx where
 prog:=P
 w:=w
 K:=K
 mg:=mg
 base:=base
 A:=A.deeper (envOfC qual scope s.heap.objs.size f cd)
 N:=N
 s₀:=s
 H₀:=H
 env:=envOfC qual scope s.heap.objs.size f cd
 outer:=outer
 stack:=envOfC qual scope s.heap.objs.size f cd :: outer
 ex:=[]
 calm:=true
 fn:=fun _=>true
 pn:=[]
 xe:=fun e s'=>wpAny (model P w) (A.deeper (envOfC qual scope s.heap.objs.size f cd)) (leaving (envOfC qual scope s.heap.objs.size f cd) e) (fun _ s''=>CX outer H s E e s'') (fun e' s''=>CX outer H s E e' s'') s'

theorem vo {sc:Scope} {n:Nat} {x:Str} (h:sc.names.lookup x = some .cell):∃ c,(cellsFrom n sc.names []).lookup x = some c:=by
 have q:=PySem.W.cellsFrom_some sc.names n [] (.inl h)
 exact Option.isSome_iff_exists.mp q

theorem zP {CX:tz} {N ps:List Str} {qual:Str} {scope:Scope} {f:Addr} {cd:Value} {outer:List Env} {s s1:Shared} {H:Hp} {E:XK} {vs:List V}
  (S:al N ps scope) (hd:A.handled = none) (e0:m7 P w K mg base A outer s H) (hl:vs.length = ps.length) (r:aN vs us)
  (x:InCallC s s.heap.objs.size (bindL (envOfC qual scope s.heap.objs.size f cd).kindOf (ps.zip us) fun _=>none) (cellsFrom (s.heap.objs.size + 1) scope.names []) (bindC (envOfC qual scope s.heap.objs.size f cd).kindOf (ps.zip us) fun _=>none) s1) :
  aG (m8 CX P w K mg base N qual scope f cd A outer s H E) [] (ii N vs) H s1:=by
 have hpl:ps.length ≤ N.length:=by have:=congrArg List.length S.pre; rw [List.length_take] at this; omega
 obtain ⟨h1,tk,rfl,hk⟩:=x.done
 have noA:∀ b:Addr,b ∉ (m8 CX P w K mg base N qual scope f cd A outer s H E).ex:=fun b z=>absurd (show b ∈ ([]:List Addr) from z) (by simp)
 refine ⟨⟨e0.mod,S.kind,rfl,rfl,Nat.le_refl _,fun y z c h1 h2=>?_,fun y hy=>?_,fun y c _ h=>?_,fun _=>hd,Around.frames_deeper e0.frames,.inr ⟨rfl,rfl⟩,fun b z=>absurd z (noA b),e0.bs,e0.bsz,fun b _ _=>noA b,fun b z=>absurd z (noA b),e0.funs,e0.frf⟩,
  rfl,e0.bare,Un.kept hk,⟨_,x.toInCall.ns,fun i y v h1 h2 h3=>?_⟩,fun y c h=>⟨_,x.cell y c h⟩,e0.hok.fresh (Nat.le_refl _),fun y c h=>?_,fun p hp=>absurd (show p ∈ ([]:List (Addr × Obj)) from hp) (by simp),e0.hok.kept hk,?_⟩
 ·exact name_of_addr x.apart (PySem.mem_of_lookup h1) (PySem.mem_of_lookup h2)
 ·have hy:scope.names.lookup y = some .cell ∨ scope.names.lookup y = some .free:=hy
  rcases hy with hy | hy
  ·exact vo hy
  ·exact absurd rfl (S.nofree _ (PySem.mem_of_lookup hy))
 ·exact Nat.le_of_lt (x.above y c (PySem.mem_of_lookup h))
 ·have hi:i < vs.length:=by
   unfold ii at h2
   by_cases hi:i < vs.length
   ·exact hi
   ·rw [List.getElem?_append_right (by simpa using hi)] at h2
    rw [List.getElem?_replicate] at h2
    split at h2 <;> cases h2
  have ha:vs[i]? = some v:=by
   unfold ii at h2
   rw [List.getElem?_append_left (by simpa using hi),List.getElem?_map] at h2
   cases e:vs[i]? with
   | none=>rw [e] at h2; cases h2
   | some a=>rw [e] at h2; cases h2; rfl
  obtain ⟨u,hu,rv⟩:=r.get ha
  have hp:ps[i]? = some y:=by
   rw [← S.pre,List.getElem?_take_of_lt (by omega)]; exact h1
  have ndP:ps.Nodup:=by rw [← S.pre]; exact S.nd.sublist (List.take_sublist _ _)
  refine ⟨u,rv,?_⟩
  rcases S.par y (List.mem_of_getElem? hp) with k | k
  ·exact .inl ⟨k,rP ndP hp hu k⟩
  ·obtain ⟨c,e⟩:=vo (n:=s.heap.objs.size + 1) k
   refine .inr ⟨.inl k,c,e,?_⟩
   have q:=x.cell y c e
   rw [rQ ndP hp hu (by show scope.names.lookup y ≠ _; rw [k]; decide)] at q
   exact q
 ·exact e0.hok.fresh (Nat.le_of_lt (x.above y c (PySem.mem_of_lookup h)))
 ·unfold ii
  show _ = N.length
  rw [List.length_append,List.length_map,List.length_replicate]
  omega

theorem FT {CX:tz} {k:Nat} {f:Addr} {name qual:Str} {params:Arguments} {body:List Stmt} {scope:Scope} {dV kV doc pm cdv ct oc:Value} {an od:Option Addr}
  {N ps:List Str} {sp:Sp} (lk:K.lookup f = some ⟨oc,od,.func (PySem.W.fnOf name qual params body scope dV kV doc pm an cdv ct),osl⟩) (hcd:PySem.W.codeIn K cdv qual = true) (S:al N ps scope)
  (len:∀ vs H Q E,sp vs H Q E → vs.length = ps.length)
  (hbody:∀ (A:Around) (outer:List Env) (s:Shared) (H:Hp) (vs:List V) (Q:VK) (E:XK),bQ k (A.deeper (envOfC qual scope s.heap.objs.size f cdv)) → sp vs H Q E →
   ∃ t,iz (m8 CX P w K mg base N qual scope f cdv A outer s H E) body t ∧ t { nx:=fun _ H'=>Q .non H',rt:=Q } (ii N vs) H) :
  db P w K mg base CX (k + 1) f (PySem.W.fnOf name qual params body scope dV kV doc pm an cdv ct) ps sp:=by
 refine ⟨len,fun A outer s H args us vs Q E hr e0 hb r hsp=>?_⟩
 have hl:=len _ _ _ _ hsp
 have KX:K.In s.heap:=e0.mod.kin.keeps fun b o e=>(e0.bs b o e).1
 have lim:s.heap.NoLimit:=e0.mod.nolimit.keeps fun b o e=>(e0.bs b o e).1
 have hkind:∀ y ∈ ps.zip us,scope.names.lookup y.1 = some .local ∨ (scope.names.lookup y.1 = some .cell ∧ ((cellsFrom (s.heap.objs.size + 1) scope.names []).lookup y.1).isSome = true):=fun ⟨n,v⟩ hy=>by
  rcases S.par n (List.of_mem_zip hy).1 with q | q
  ·exact .inl q
  ·exact .inr ⟨q,PySem.W.cellsFrom_some _ _ _ (.inl q)⟩
 refine codeAny_call_function hr.depth (KX _ _ lk) rfl S.co S.gen rfl (PySem.W.codeRec_of KX hcd) (hb _ _ _ _ ?_)
 refine wpAny_newFunctionEnv_cells S.kind hkind fun env he s1 x=>?_
 subst he
 refine ⟨lim.keeps x.toInCall.keep,codeAny_func ?_⟩
 obtain ⟨t,ht,hq⟩:=hbody A outer s H vs Q E (hr.deeper _) hsp
 have I:aG (m8 CX P w K mg base N qual scope f cdv A outer s H E) [] (ii N vs) H s1:=zP S hr.hd e0 hl r x
 refine wpAny_mono (ht [] s1 (ii N vs) H _ I hq) (fun fl s' hs=>?_) fun e s' hs=>hs
 have fin:∀ {σ':St} {H':Hp} {v:V} {u:Value},aG (m8 CX P w K mg base N qual scope f cdv A outer s H E) [] σ' H' s' → aO v u → Q v H' → CE outer P w H s Q u s' :=
  fun {σ' H' v u} J rv q=>⟨v,H',J.os,J.bare,J.base,J.hok,rv,q⟩
 cases fl with
 | ret u =>
  obtain ⟨v,σ',H',J,rv,q⟩:=hs
  exact fin J rv q
 | next =>
  obtain ⟨σ',H',J,q⟩:=hs
  exact fin (v:=V.non) (u:=Value.none) J rfl q
 | brk =>
  obtain ⟨_,_,_,q⟩:=hs
  exact False.elim q
 | cont =>
  obtain ⟨_,_,_,q⟩:=hs
  exact False.elim q
section
variable {X:Cx} {x:Str} {p pos:Pos} {e:Expr} {t:TA} {id T:String} {r:List V → Hp → VK → Prop}
def Iq (r:List V → Hp → VK → Prop) (t:TA):TE:=fun σ H Q=>t σ H fun vs H1=>r vs H1 Q
theorem kj (hc:dy X (.builtin id) r) (hg:Gl X x) (hm:X.mg x = none) (hv:bootBuiltins x = some (.builtin id)) (ha:PA X (e :: es) t) (hn:x ≠ "__name__":=by decide) (hdb:(x == ("__debug__":Str)) = false:=by decide)
  (he:starEach (e :: es) X.env = (false,eval e X.env) :: starEach es X.env:=by with_unfolding_all rfl) (hpl:(backTo pos (starEach es X.env)).any (·.1) = false:=by with_unfolding_all rfl):PE X (.Call (.Name x p) (e :: es) [] pos) (Iq r t):=by
 intro pins s σ H Q I h
 refine wpAny_Call_Name_kw (lF I hg hm hv ?_ hn hdb)
 exact PyProof.Rows.callWith_builtin1 (bw (ha pos pins s σ H _ I h) fun us s1 ⟨vs,H1,I1,r1,q1⟩=>hc pins s1 σ H1 vs us Q I1 r1 q1) he hpl
theorem rR (hc:dy X (.type T) r) (hg:Gl X x) (hm:X.mg x = none) (hv:bootBuiltins x = some (.type T)) (ha:PA X (e :: es) t) (hn:x ≠ "__name__":=by decide) (hdb:(x == ("__debug__":Str)) = false:=by decide)
  (he:starEach (e :: es) X.env = (false,eval e X.env) :: starEach es X.env:=by with_unfolding_all rfl) (hpl:(backTo pos (starEach es X.env)).any (·.1) = false:=by with_unfolding_all rfl):PE X (.Call (.Name x p) (e :: es) [] pos) (Iq r t):=by
 intro pins s σ H Q I h
 refine wpAny_Call_Name_kw (lF I hg hm hv ?_ hn hdb)
 exact PyProof.Rows.callWith_type1 (bw (ha pos pins s σ H _ I h) fun us s1 ⟨vs,H1,I1,r1,q1⟩=>hc pins s1 σ H1 vs us Q I1 r1 q1) he hpl
end
end L2
variable {xs:List L2.V} {vs:List L2.V} {H:L2.Hp} {X:L2.Cx} {σ:L2.St}
namespace HT
open PySem PyProof.Rows
section
open PySem.SeqAt
open PySem.AutoSeq1 (wpAny_loadPart')
open PySem.MeetsSeq PySem.MeetsSeq2 PySem.MeetsSeq3
end
section
theorem cat_tup {t b:Addr} {vs ws:List Value} {Q:Value → Shared → Prop} (ht:IsTup s.heap t vs.toArray) (hb:IsTup s.heap b ws.toArray) (hv:vs ≠ [])
  (h1:ws = [] → Q (.ref t) s) (h2:ws ≠ [] → Q (.ref s.heap.objs.size) { s with heap:=s.heap.push { cls:=.type "tuple",data:=.seq (vs ++ ws).toArray } })
  (hsz:vs.length + ws.length ≤ sizeLine):wpAny (model prog w) A (binaryOp .Add (.ref t) (.ref b)) Q E s:=by
 obtain ⟨⟨cls,dd,data,sl⟩,ho,hc,n,hd⟩:=id ht
 obtain ⟨⟨cls2,dd2,data2,sl2⟩,ho2,hc2,n2,hd2⟩:=id hb
 simp only at hc hd hc2 hd2
 subst hc hd hc2 hd2
 have e:vs.toArray ++ ws.toArray = (vs ++ ws).toArray:=by simp
 by_cases hw:ws = []
 ·exact concat_meets ⟨_,ho,rfl⟩ ⟨_,ho2,rfl⟩ noFill_tuple_add seq_tuple_add PySem.F.slot_tuple_add PySem.F.entry_tuple_add (PySem.F.args_tuple_add_2 _ _)
   (tuple_addW1 t b vs.toArray ws.toArray n n2 dd dd2 sl sl2 (by simpa using hv) (by simp [hw])) ⟨ho,ho2,h1 hw⟩
 ·refine concat_meets ⟨_,ho,rfl⟩ ⟨_,ho2,rfl⟩ noFill_tuple_add seq_tuple_add PySem.F.slot_tuple_add PySem.F.entry_tuple_add (PySem.F.args_tuple_add_2 _ _)
   (tuple_addW2 t b vs.toArray ws.toArray n n2 dd dd2 sl sl2 (by simpa using hv) (by simpa using hw) (by rw [List.size_toArray,List.size_toArray]; exact hsz)) ⟨ho,ho2,?_⟩
  rw [e]
  exact h2 hw

def sIx (n d:Nat):Option Int → Nat
 | none=>d
 | some v=>if v < 0 then (v + (n:Int)).toNat else min v.toNat n
theorem sIx_none (n d:Nat):sIx n d none = d:=rfl
theorem sIx_nat (n d k:Nat):sIx n d (some (k:Int)) = min k n:=by
 show (if (k:Int) < 0 then ((k:Int) + (n:Int)).toNat else min (k:Int).toNat n) = min k n
 rw [if_neg (by omega),Int.toNat_natCast]
theorem GS (n d:Nat) (hd:d ≤ n) (o:Option Int):sIx n d o ≤ n:=by
 cases o with
 | none=>exact hd
 | some v =>
  show (if v < 0 then (v + (n:Int)).toNat else min v.toNat n) ≤ n
  by_cases hv:v < 0
  ·rw [if_pos hv]; omega
  ·rw [if_neg hv]; exact Nat.min_le_right _ _
theorem yq (v:Int) (n d:Nat):(if v < 0 then max (v + (n:Int)) 0 else min v (n:Int)) = ((sIx n d (some v):Nat):Int):=by
 show (if v < 0 then max (v + (n:Int)) 0 else min v (n:Int)) = (((if v < 0 then (v + (n:Int)).toNat else min v.toNat n):Nat):Int)
 by_cases hv:v < 0
 ·simp only [if_pos hv]; omega
 ·simp only [if_neg hv]; omega
theorem w6 (lo hi:Option Int) (n:Nat):Builtin.Slice.sliceAdjust lo hi 1 (n:Int) = (((sIx n 0 lo:Nat):Int),((sIx n n hi:Nat):Int)):=by
 have h1:¬ ((1:Int) < 0):=by omega
 unfold Builtin.Slice.sliceAdjust
 simp only [h1,if_false]
 refine Prod.ext ?_ ?_
 ·cases lo with
  | none=>rfl
  | some v=>exact yq v n 0
 ·cases hi with
  | none=>rfl
  | some v=>exact yq v n n
theorem w8 (i j:Nat):Builtin.Slice.slicePlaces (i:Int) (j:Int) 1 = j - i:=by
 unfold Builtin.Slice.slicePlaces
 have h1:(1:Int) > 0:=by omega
 simp only [h1,if_true,Int.ediv_one]
 split <;> omega
theorem ow {v:Value} {o:Option Int} {Q:Option Int → Shared → Prop} (p:IsPart v o) (h:Q o s):wpAny (model prog w) A (Builtin.Slice.slicePartIndex v) Q E s:=by
 cases p with
 | none=>exact slicePart_none h
 | int i t=>exact slicePart_int h
theorem sliceApplied_gen {sl:Addr} {vl vu:Value} {lo hi:Option Int} {n:Nat} {Q:Int × Int × Nat → Shared → Prop} (hs:s.heap.IsSliceOf sl vl vu .none) (pl:IsPart vl lo) (pu:IsPart vu hi)
  (h:Q (((sIx n 0 lo:Nat):Int),1,sIx n n hi - sIx n 0 lo) s):wpAny (model prog w) A (Builtin.Slice.sliceApplied (.ref sl) (pure (n:Int))) Q E s:=by
 obtain ⟨os,hos,hcs,hds⟩:=id hs
 unfold Builtin.Slice.sliceApplied Builtin.Slice.sliceFields
 refine wpAny_bind (wpAny_bind (wpAny_field hos hds (x:=vl) rfl (wpAny_bind (wpAny_field hos hds (x:=vu) rfl (wpAny_bind (wpAny_field hos hds (x:=.none) rfl (wpAny_pure ?_)))))))
 refine wpAny_bind (slicePart_none ?_)
 show wpAny _ _ (if ((1:Int) == 0) = true then _ else _) _ _ s
 rw [if_neg (by decide)]
 refine wpAny_bind (ow pl (wpAny_bind (ow pu (wpAny_bind (wpAny_pure ?_)))))
 show wpAny _ _ (match Builtin.Slice.sliceAdjust lo hi 1 (n:Int) with | (lo,hi)=>pure (lo,(1:Int),Builtin.Slice.slicePlaces lo hi 1)) _ _ s
 rw [w6 lo hi n]
 show wpAny _ _ (pure (((sIx n 0 lo:Nat):Int),(1:Int),Builtin.Slice.slicePlaces ((sIx n 0 lo:Nat):Int) ((sIx n n hi:Nat):Int) 1)) _ _ s
 rw [w8]
 exact wpAny_pure h
theorem Bv (xs:Array Value) (i k:Nat):((List.range k).filterMap fun (m:Nat)=>xs[((i:Int) + (m:Int) * 1).toNat]?).toArray = ((xs.toList.drop i).take k).toArray:=by
 have e:(fun (m:Nat)=>xs[((i:Int) + (m:Int) * 1).toNat]?) = fun m=>xs[i + m]?:=by
  funext m
  have:((i:Int) + (m:Int) * 1).toNat = i + m:=by omega
  rw [this]
 rw [e]
 have:=pick_run xs i k
 rw [List.filterMap_map] at this
 have e2:((fun x=>xs[x]?) ∘ fun x=>i + x) = fun m=>xs[i + m]?:=rfl
 rw [e2] at this
 rw [this]

theorem getItem_tuple_cut {t sl:Addr} {items:Array Value} {vl vu:Value} {lo hi:Option Int} {Q:Value → Shared → Prop} (ht:IsTup s.heap t items) (hs:s.heap.IsSliceOf sl vl vu .none) (pl:IsPart vl lo) (pu:IsPart vu hi)
  (hw:¬ (sIx items.size 0 lo = 0 ∧ sIx items.size items.size hi = items.size))
  (h:Q (.ref s.heap.objs.size) { s with heap:=s.heap.push { cls:=.type "tuple",data:=.seq ((items.toList.drop (sIx items.size 0 lo)).take (sIx items.size items.size hi - sIx items.size 0 lo)).toArray } })
  (hsz:items.size ≤ sizeLine):wpAny (model prog w) A (getItem (.ref t) (.ref sl)) Q E s:=by
 have htake:sizeOk (.seq ((items.toList.drop (sIx items.size 0 lo)).take (sIx items.size items.size hi - sIx items.size 0 lo)).toArray):=by
  show ((items.toList.drop (sIx items.size 0 lo)).take (sIx items.size items.size hi - sIx items.size 0 lo)).toArray.size ≤ sizeLine
  rw [List.size_toArray,List.length_take,List.length_drop,Array.length_toList]
  omega
 have hj:sIx items.size items.size hi ≤ items.size:=GS _ _ (Nat.le_refl _) hi
 obtain ⟨os,hos,hcs,hds⟩:=id hs
 have hTs:s.TypeIs (.ref sl) "slice":=⟨os,hos,hcs⟩
 unfold getItem
 try with_reducible refine wpAny_holding ?_
 first | refine wpAny_bind (wpAny_pure ?_) | skip
 refine wpAny_bind (wpAny_sequenceKey ht.typeIs (by decide) ?_)
 refine wpAny_bind (wpAny_callSpecial?_slot (name:=Str.ofString "__getitem__") ht.typeIs PyProof.Rows.slot_tuple_getitem
  (wpAny_call_entry PyProof.Rows.slot_tuple_getitem ht.typeIs entry_tuple_getitem ?_ (args_tuple_getitem _ _)))
 show wpAny _ _ (Builtin.Tuple.tupleItemsOf (.ref t) >>= _) _ _ s
 refine wpAny_bind (tupleItemsOf_ ht ?_)
 refine wpAny_bind (wpAny_typeOf hTs ?_)
 rw [if_pos (by decide)]
 refine wpAny_bind (sliceApplied_gen hs pl pu ?_)
 have hno:¬ ((((sIx items.size 0 lo:Nat):Int) == 0 && (1:Int) == 1 && (sIx items.size items.size hi - sIx items.size 0 lo) == items.size) = true):=by
  intro q
  rw [Bool.and_eq_true,Bool.and_eq_true] at q
  have q1:((sIx items.size 0 lo:Nat):Int) = 0:=eq_of_beq q.1.1
  have q2:sIx items.size items.size hi - sIx items.size 0 lo = items.size:=eq_of_beq q.2
  exact hw ⟨by omega,by omega⟩
 show wpAny _ _ (if (((sIx items.size 0 lo:Nat):Int) == 0 && (1:Int) == 1 && (sIx items.size items.size hi - sIx items.size 0 lo) == items.size) = true then _ else _) _ _ s
 rw [if_neg hno,Bv]
 first
  | exact wpAny_bind (m:=Builtin.Tuple.tupleExact _) (wpAny_newObj_type (wpAny_pure ⟨_,rfl,wpAny_pure h⟩) htake)
  | exact wpAny_bind (m:=Builtin.Tuple.tupleExact _) (wpAny_newObj_type (wpAny_bind (wpAny_pure (wpAny_pure ⟨_,rfl,wpAny_pure h⟩))) htake)
  | exact wpAny_bind (wpAny_bind (m:=Builtin.Tuple.tupleExact _) (wpAny_newObj_type (wpAny_pure (wpAny_pure ⟨_,rfl,wpAny_pure h⟩)) htake))
  | exact wpAny_bind (wpAny_bind (m:=Builtin.Tuple.tupleExact _) (wpAny_newObj_type (wpAny_pure ⟨_,rfl,wpAny_pure h⟩) htake))
end
end HT
namespace L2
open PySem PySem.Spec PyProof.Rows
abbrev TO:=St → Hp → (Option Int → Hp → Prop) → Prop
def PO (X:Cx) (e:Option Expr) (t:TO):Prop :=
 ∀ (pins:List (Addr × Obj)) (s:Shared) (σ:St) (H:Hp) (Q:Option Int → Hp → Prop),aG X pins σ H s → t σ H Q →
  wpAny (model X.prog X.w) X.A (evalPart e X.env) (fun u s'=>∃ o H',aG X pins σ H' s' ∧ IsPart u o ∧ Q o H') X.xe s
def yr:TO:=fun _ H Q=>Q none H
def FU (t:TE):TO:=fun σ H Q=>t σ H fun x H1=>∃ i,x = .int i ∧ Q (some i) H1

section
variable {e:Expr} {te:TE} {lo hi:Option Expr} {tl th:TO} {pos p2:Pos}
theorem yt:PO X none yr:=by
 intro pins s σ H Q I h
 rw [evalPart_none]
 exact wpAny_pure ⟨none,H,I,.none,h⟩
theorem yu (h:PE X e te):PO X (some e) (FU te):=by
 intro pins s σ H Q I hw
 rw [evalPart_some]
 refine bw (h pins s σ H _ I hw) fun u s1 ⟨x,H1,I1,r1,q1⟩=>?_
 obtain ⟨i,rfl,q⟩:=q1
 obtain ⟨t,rfl⟩:=r1
 exact ⟨some i,H1,I1,.int i t,q⟩

def Ir (X:Cx) (r:V → Option Int → Option Int → Hp → VK → Prop):Prop :=
 ∀ (pins:List (Addr × Obj)) (s:Shared) (σ:St) (H:Hp) (x:V) (v vl vu:Value) (lo hi:Option Int) (sl:Addr) (Q:VK),aG X pins σ H s → aO x v → s.heap.IsSliceOf sl vl vu .none → IsPart vl lo → IsPart vu hi → r x lo hi H Q →
  ∃ T id,typeLookup (.type T) "__getitem__" = pure (some (.builtin id)) ∧ s.TypeIs v T ∧ wpAny (model X.prog X.w) X.A (getItem v (.ref sl)) (EP X pins σ Q) X.xe s
def K0 (r:V → Option Int → Option Int → Hp → VK → Prop) (te:TE) (tl th:TO):TE:=fun σ H Q=>te σ H fun x H1=>tl σ H1 fun l H2=>th σ H2 fun u H3=>r x l u H3 Q
theorem vp {r:V → Option Int → Option Int → Hp → VK → Prop} (hr:Ir X r) (he:PE X e te) (hl:PO X lo tl) (hu:PO X hi th):PE X (.Subscript e (.Slice lo hi none p2) pos) (K0 r te tl th):=by
 intro pins s σ H Q I h
 refine Subscript_ (bw (he pins s σ H _ I h) fun v s1 ⟨x,H1,I1,r1,q1⟩=>?_)
 refine wpAny_Slice (bw (hl pins s1 σ H1 _ I1 q1) fun vl s2 ⟨l,H2,I2,pl,q2⟩=>bw (hu pins s2 σ H2 _ I2 q2) fun vu s3 ⟨u,H3,I3,pu,q3⟩=>?_)
 rw [evalPart_none]
 refine wpAny_pure ?_
 have I4:aG X pins σ H3 { s3 with heap:=s3.heap.push { cls:=.type "slice",data:=.fields #[vl,vu,.none] } }:=I3.kept (t':=s3.toks) fun b ob q=>Heap.get?_push_of_some _ q
 obtain ⟨T,id,hT,ht,hg⟩:=hr pins { s3 with heap:=s3.heap.push { cls:=.type "slice",data:=.fields #[vl,vu,.none] } } σ H3 x v vl vu l u s3.heap.objs.size Q I4 r1 (Heap.IsSliceOf.new ..) pl pu q3
 show wpAny (model X.prog X.w) X.A (subscriptTail e (.Slice lo hi none p2) v (.ref s3.heap.objs.size)) (EP X pins σ Q) X.xe { s3 with heap:=s3.heap.push { cls:=.type "slice",data:=.fields #[vl,vu,.none] } }
 exact tail_any (ops:=[.ref s3.heap.objs.size,v]) ht hT hg (by with_unfolding_all rfl)

def jK (xs:List V) (lo hi:Option Int):List V:=(xs.drop (HT.sIx xs.length 0 lo)).take (HT.sIx xs.length xs.length hi - HT.sIx xs.length 0 lo)
theorem mB (xs:List V) (lo hi:Option Int):(jK xs lo hi).length ≤ xs.length:=by
 unfold jK
 rw [List.length_take,List.length_drop]
 omega
def Kg (K:PySem.W.Frag):V → Option Int → Option Int → Hp → VK → Prop:=fun x lo hi H Q=>∃ a xs,x = .ref a ∧ fh K H a xs ∧
 ¬ (HT.sIx xs.length 0 lo = 0 ∧ HT.sIx xs.length xs.length hi = xs.length) ∧ ∀ p,H p = none → Q (.ref p) (upd H p (.tup (jK xs lo hi)))
theorem GT:Ir X (Kg X.K):=by
 intro pins s σ H x v vl vu lo hi sl Q I rx hs pl pu h
 obtain ⟨a,xs,rfl,hx,hw,q⟩:=h
 cases rx
 obtain ⟨its,r,ht,hz⟩:=I.tuple hx
 have hlen:its.toArray.size = xs.length:=by rw [List.size_toArray]; exact r.length.symm
 refine ⟨"tuple",_,PyProof.Rows.slot_tuple_getitem.lookup,ht.typeIs,?_⟩
 refine HT.getItem_tuple_cut ht hs pl pu (by rw [hlen]; exact hw) ?_ (by rw [hlen]; exact hz)
 rw [hlen]
 refine ⟨.ref s.heap.objs.size,_,I.laid (t':=s.toks) (o:=.tup (jK xs lo hi)) (fun b ob q=>Heap.get?_push_of_some _ q) (Nat.le_refl _) ?_,rfl,q _ (I.hok.fresh (Nat.le_refl _))⟩
 exact ⟨Nat.le_trans (mB xs lo hi) hz,_,(r.drop (HT.sIx xs.length 0 lo)).take (HT.sIx xs.length xs.length hi - HT.sIx xs.length 0 lo),IsTup.new _ _⟩

def Ja (K:PySem.W.Frag):R2:=fun x y H Q=>∃ a b xs ys,x = .ref a ∧ y = .ref b ∧ fh K H a xs ∧ fh K H b ys ∧ xs ≠ [] ∧ xs.length + ys.length ≤ sizeLine ∧
 (ys = [] → Q (.ref a) H) ∧ (ys ≠ [] → ∀ p,H p = none → Q (.ref p) (upd H p (.tup (xs ++ ys))))
theorem aN.nil_iff (r:aN xs us):us = [] ↔ xs = []:=by
 cases r with
 | nil=>simp
 | cons _ _=>simp
theorem Er:kh X (binaryOp .Add) (Ja X.K):=by
 intro pins s σ H x y v u Q I rx ry h
 obtain ⟨a,b,xs,ys,rfl,rfl,ha,hb,hx,hz,q1,q2⟩:=h
 cases rx
 cases ry
 obtain ⟨its,r1,p1,_⟩:=I.tuple ha
 obtain ⟨its2,r2,p2,_⟩:=I.tuple hb
 refine HT.cat_tup p1 p2 (fun z=>hx (r1.nil_iff.mp z)) (fun z=>⟨.ref a,H,I,rfl,q1 (r2.nil_iff.mp z)⟩) (fun z=>?_) (by rw [← r1.length,← r2.length]; exact hz)
 refine ⟨.ref s.heap.objs.size,_,I.laid (t':=s.toks) (o:=.tup (xs ++ ys)) (fun b ob q=>Heap.get?_push_of_some _ q) (Nat.le_refl _) ?_,rfl,q2 (fun w=>z (r2.nil_iff.mpr w)) _ (I.hok.fresh (Nat.le_refl _))⟩
 exact ⟨by rw [List.length_append]; exact hz,_,r1.append r2,IsTup.new _ _⟩
end
def Bw (n:Nat) (i:Int):Option Nat:=if 0 ≤ i then (if i < n then some i.toNat else none) else if -(n:Int) ≤ i then some (i + n).toNat else none
def D7 {α:Type} (xs:List α) (i:Int):Option α:=(Bw xs.length i).bind fun j=>xs[j]?
theorem yv {n:Nat} {i:Int} {j:Nat} (h:Bw n i = some j):seqIndex? i n = some j ∧ j < n ∧ -(n:Int) ≤ i ∧ i < n:=by
 unfold Bw at h
 by_cases h0:0 ≤ i
 ·rw [if_pos h0] at h
  by_cases h1:i < n
  ·rw [if_pos h1] at h
   have e:i.toNat = j:=Option.some.inj h
   exact ⟨by rw [seqIndex_of h0 h1,e],by omega,by omega,h1⟩
  ·rw [if_neg h1] at h; cases h
 ·rw [if_neg h0] at h
  by_cases h1:-(n:Int) ≤ i
  ·rw [if_pos h1] at h
   have e:(i + n).toNat = j:=Option.some.inj h
   exact ⟨by rw [seqIndex_neg (by omega) h1,e],by omega,h1,by omega⟩
  ·rw [if_neg h1] at h; cases h
theorem yw {α:Type} {xs:List α} {i:Int} {v:α} (h:D7 xs i = some v):∃ j,seqIndex? i xs.length = some j ∧ xs[j]? = some v ∧ j < xs.length ∧ -(xs.length:Int) ≤ i ∧ i < xs.length:=by
 unfold D7 at h
 cases e:Bw xs.length i with
 | none=>rw [e] at h; cases h
 | some j =>
  rw [e] at h
  obtain ⟨h1,h2,h3,h4⟩:=yv e
  exact ⟨j,h1,h,h2,h3,h4⟩
theorem yy {α:Type} {xs:List α} {j:Nat} {v:α} (h:xs[j]? = some v):D7 xs (j:Int) = some v:=by
 have hj:j < xs.length:=(List.getElem?_eq_some_iff.mp h).1
 have e:Bw xs.length (j:Int) = some j:=by
  unfold Bw
  rw [if_pos (by omega),if_pos (by omega)]; simp
 unfold D7; rw [e]; exact h
def yA (b:Expr):Prop:=∀ o i,subscripted b false o i = operate [o,i] (getItem o i)
def JU (X:Cx) (r:R2):Prop :=
 ∀ (value slice:Expr) (pins:List (Addr × Obj)) (s:Shared) (σ:St) (H:Hp) (x y:V) (v u:Value) (Q:VK),aG X pins σ H s → aO x v → aO y u → r x y H Q →
  subscripted slice false v u = operate [v,u] (getItem v u) → wpAny (model X.prog X.w) X.A (subscriptTail value slice v u) (EP X pins σ Q) X.xe s
def K8 (X:Cx) (id:String) (r:V → List V → Hp → VK → Prop):Prop :=
 ∀ (pins:List (Addr × Obj)) (s:Shared) (σ:St) (H:Hp) (x:V) (xs:List V) (v:Value) (us:List Value) (Q:VK),aG X pins σ H s → aO x v → aN xs us → r x xs H Q →
  wpAny (model X.prog X.w) X.A (call (.builtin id) (v :: us)) (EP X pins σ Q) X.xe s
section
variable {a b:Expr} {ta tb:TE}
theorem FV {r:R2} (hr:JU X r) (ha:PE X a ta) (hb:PE X b tb) (hs:yA b):PE X (.Subscript a b pos) (GJ r ta tb):=by
 intro pins s σ H Q I h
 exact Subscript_ (GK ha hb I h fun v u s2 x y H2 I2 rx ry q=>hr a b pins s2 σ H2 x y v u Q I2 rx ry q (hs _ _))

def Kh (K:PySem.W.Frag):R2:=fun x y H Q=>∃ p xs i v,x = .ref p ∧ y = .int i ∧ fu K H p xs ∧ D7 xs i = some v ∧ Q v H
def Ki (K:PySem.W.Frag):R2:=fun x y H Q=>∃ p xs i v,x = .ref p ∧ y = .int i ∧ fh K H p xs ∧ D7 xs i = some v ∧ Q v H
theorem yB:JU X (Kh X.K):=by
 intro value slice pins s σ H x y v u Q I rx ry h hs
 obtain ⟨p,xs,i,z,rfl,rfl,hq,he,q⟩:=h
 cases rx
 obtain ⟨t,rfl⟩:=ry
 obtain ⟨its,r,pl,hz⟩:=I.list hq
 obtain ⟨j,h1,h2,h3,h4,h5⟩:=yw he
 obtain ⟨w,ew,rw'⟩:=r.get h2
 have hl:=r.length
 have hn:=lJ
 have fin:EP X pins σ Q w s:=⟨z,H,I,rw',q⟩
 by_cases h0:0 ≤ i
 ·have hj:i.toNat = j:=by
   rw [seqIndex_of h0 h5] at h1
   exact Option.some.inj h1
  exact item_listR pl.isList h0 (by omega) (by rw [hj]; simpa using ew) fin hs
 ·have hj:(i + (its.toArray.size:Int)).toNat = j:=by
   rw [seqIndex_neg (by omega) h4] at h1
   rw [List.size_toArray,← hl]
   exact Option.some.inj h1
  exact subscriptTail_builtinR (x:=w) pl.isList.typeIs slot_list_getitem.lookup
   (wpAny_getItem_list_neg (Q:=fun r s'=>r = w ∧ EP X pins σ Q r s') pl.isList (by omega) (by rw [List.size_toArray] <;> omega) (by omega) (by rw [hj]; simpa using ew) ⟨rfl,fin⟩) hs
theorem GU:JU X (Ki X.K):=by
 intro value slice pins s σ H x y v u Q I rx ry h hs
 obtain ⟨p,xs,i,z,rfl,rfl,hq,he,q⟩:=h
 cases rx
 obtain ⟨t,rfl⟩:=ry
 obtain ⟨its,r,pl,hz⟩:=I.tuple hq
 obtain ⟨j,h1,h2,h3,h4,h5⟩:=yw he
 obtain ⟨w,ew,rw'⟩:=r.get h2
 have hl:=r.length
 have hn:=lJ
 have fin:EP X pins σ Q w s:=⟨z,H,I,rw',q⟩
 exact subscriptTail_builtinR (x:=w) pl.typeIs slot_tuple_getitem.lookup
  (getItem_tuple (j:=j) (Q:=fun r s'=>r = w ∧ EP X pins σ Q r s') pl (by omega) (by omega) (by rw [List.size_toArray,← hl]; exact h1) (by simpa using ew) ⟨rfl,fin⟩) hs
theorem xa (its:List Value) (n j:Nat) (u:Value):Obj.mapSeq (·.setIfInBounds j u) { cls:=.type "list",data:=.seq its.toArray n } = { cls:=.type "list",data:=.seq (its.set j u).toArray n }:=by
 simp [Obj.mapSeq]
theorem aG.lst {pins:List (Addr × Obj)} {σ:St} {H:Hp} {s:Shared} {p:Addr} {xs:List V} (I:aG X pins σ H s) (h:H p = some (.lst xs)) :
  ∃ (its:List Value) (n:Nat),aN xs its ∧ s.heap.get? p = some { cls:=.type "list",data:=.seq its.toArray n } ∧ xs.length ≤ sizeLine:=by
 obtain ⟨z,its,n,r,e⟩:=I.hok p _ h
 exact ⟨its,n,r,e,z⟩
theorem aG.lstUpd {p:Addr} {xs ys:List V} {its its':List Value} {n n':Nat} {f:Obj → Obj} (I:aG X pins σ H s) (h:H p = some (.lst xs))
  (ho:s.heap.get? p = some { cls:=.type "list",data:=.seq its.toArray n }) (hf:f { cls:=.type "list",data:=.seq its.toArray n } = { cls:=.type "list",data:=.seq its'.toArray n' }) (r:aN ys its') (hz:ys.length ≤ sizeLine) (t:Nat) :
  aG X pins σ (upd H p (.lst ys)) { s with heap:=s.heap.update p f,toks:=t }:=by
 have e:(s.heap.update p f).get? p = some { cls:=.type "list",data:=.seq its'.toArray n' }:=by
  rw [Heap.get?_update_self f ho (by rw [hf] <;> rfl),hf]
 refine I.write (x:=p) (e:=p) (by rw [h]; trivial) (.inl rfl) (fun b u hb q=>(Heap.get?_update_other _ _ (Ne.symm hb)).trans q) ⟨_,e⟩ ?_
 exact ⟨hz,its',n',r,e⟩
def Bx:V → V → V → Hp → (Hp → Prop) → Prop:=fun o i v H Q=>∃ p xs k j,o = .ref p ∧ i = .int k ∧ H p = some (.lst xs) ∧ Bw xs.length k = some j ∧ Q (upd H p (.lst (xs.set j v)))
theorem By:IP X Bx:=by
 intro pins s σ H o i v ov iv u Q I ro ri rv h
 obtain ⟨p,xs,k,j,rfl,rfl,hp,hj,q⟩:=h
 cases ro
 obtain ⟨t,rfl⟩:=ri
 obtain ⟨its,n,r,ho,hz⟩:=I.lst hp
 obtain ⟨h1,h2,h3,h4⟩:=yv hj
 have hl:=r.length
 have hn:=lJ
 have I':aG X pins σ (upd H p (.lst (xs.set j v))) { s with heap:=s.heap.update p (Obj.mapSeq (·.setIfInBounds j u)) } :=
  I.lstUpd hp ho (xa its n j u) (r.set rv j) (by rw [List.length_set]; exact hz) s.toks
 by_cases h0:0 ≤ k
 ·have hk:k.toNat = j:=by
   rw [seqIndex_of h0 h4] at h1
   exact Option.some.inj h1
  exact PySem.W.ki_setAt ho h0 (by omega) (by rw [List.size_toArray,← hl]; exact h4) (by rw [hk]; exact ⟨_,I',q⟩)
 ·have hk:(k + (its.toArray.size:Int)).toNat = j:=by
   rw [seqIndex_neg (by omega) h3] at h1
   rw [List.size_toArray,← hl]
   exact Option.some.inj h1
  exact PySem.W.ki_setBack ho (by omega) (by rw [List.size_toArray,← hl]; exact h3) (by omega) (by rw [hk]; exact ⟨_,I',q⟩)

theorem tE (lo hi:Option Int) (n:Nat):(sliceBounds lo hi none n).1 = ((HT.sIx n 0 lo:Nat):Int) ∧ (sliceBounds lo hi none n).2.1 = ((HT.sIx n n hi:Nat):Int) ∧ (sliceBounds lo hi none n).2.2 = 1:=by
 refine ⟨?_,?_,rfl⟩
 ·cases lo with
  | none=>simp [sliceBounds,HT.sIx]
  | some i =>
   simp only [sliceBounds,HT.sIx,Option.getD_none,show (1:Int) > 0 by decide,if_true]
   by_cases h:i < 0
   ·simp only [h,if_true] <;> omega
   ·simp only [h,if_false] <;> omega
 ·cases hi with
  | none=>simp [sliceBounds,HT.sIx]
  | some i =>
   simp only [sliceBounds,HT.sIx,Option.getD_none,show (1:Int) > 0 by decide,if_true]
   by_cases h:i < 0
   ·simp only [h,if_true] <;> omega
   ·simp only [h,if_false] <;> omega
theorem qr (its:List Value) (lo hi:Option Int):slicePick its.toArray lo hi none = ((its.drop (HT.sIx its.length 0 lo)).take (HT.sIx its.length its.length hi - HT.sIx its.length 0 lo)).toArray:=by
 obtain ⟨h1,h2,h3⟩:=tE lo hi its.toArray.size
 unfold slicePick
 rw [h1,h2,h3]
 simp only [sliceRange_one,pick_run,List.size_toArray] <;> rfl
def Kj (K:PySem.W.Frag):V → Option Int → Option Int → Hp → VK → Prop:=fun x lo hi H Q=>∃ a xs,x = .ref a ∧ fu K H a xs ∧ ∀ p,H p = none → Q (.ref p) (upd H p (.lst (jK xs lo hi)))
theorem JV:Ir X (Kj X.K):=by
 intro pins s σ H x v vl vu lo hi sl Q I rx hs pl pu h
 obtain ⟨a,xs,rfl,hx,q⟩:=h
 cases rx
 obtain ⟨its,r,ht,hz⟩:=I.list hx
 have hlen:=r.length
 refine ⟨"list",_,slot_list_getitem.lookup,ht.isList.typeIs,?_⟩
 refine wpAny_getItem_list_slice ht.isList hs pl pu .none (by simp) ?_ (by rw [List.size_toArray] <;> omega)
 rw [qr,← hlen]
 refine ⟨.ref s.heap.objs.size,_,I.laid (t':=s.toks) (o:=.lst (jK xs lo hi)) (fun b ob q=>Heap.get?_push_of_some _ q) (Nat.le_refl _) ?_,rfl,q _ (I.hok.fresh (Nat.le_refl _))⟩
 exact ⟨Nat.le_trans (mB xs lo hi) hz,_,0,(r.drop (HT.sIx xs.length 0 lo)).take (HT.sIx xs.length xs.length hi - HT.sIx xs.length 0 lo),Heap.get?_push_size _ rfl⟩

def eM:V → Bool
 | .non=>true
 | .bl _=>true
 | .int _=>true
 | .str _=>true
 | _=>false
def wO:V → V → Bool
 | .non,.non=>true
 | .bl a,.bl b=>a == b
 | .bl a,.int b=>(if a then 1 else 0) == b
 | .int a,.bl b=>a == (if b then 1 else 0)
 | .int a,.int b=>a == b
 | .str a,.str b=>a == b
 | _,_=>false
theorem Bz {y x:V} {u v:Value} (ry:aO y u) (rx:aO x v) (fy:eM y = true) (fx:eM x = true):SeqAt.EqAt A s u v (wO y x):=by
 cases y with
 | non =>
  cases ry
  cases x with
  | non=>cases rx; exact SeqAt.EqAt.same _
  | bl b=>cases rx; exact SeqAt.EqAt.none_bool b
  | int b=>obtain ⟨t,rfl⟩:=rx; exact SeqAt.EqAt.none_int b t
  | str b=>obtain ⟨t,rfl⟩:=rx; exact SeqAt.EqAt.none_str b t
  | _=>exact absurd (show false = true from fx) Bool.false_ne_true
 | bl a =>
  cases ry
  cases x with
  | non=>cases rx; exact SeqAt.EqAt.bool_none a
  | bl b=>cases rx; exact SeqAt.EqAt.bool_bool a b
  | int b=>obtain ⟨t,rfl⟩:=rx; exact SeqAt.EqAt.bool_int a b t
  | str b=>obtain ⟨t,rfl⟩:=rx; exact SeqAt.EqAt.bool_str a b t
  | _=>exact absurd (show false = true from fx) Bool.false_ne_true
 | int a =>
  obtain ⟨t',rfl⟩:=ry
  cases x with
  | non=>cases rx; exact SeqAt.EqAt.int_none a t'
  | bl b=>cases rx; exact SeqAt.EqAt.int_bool a t' b
  | int b=>obtain ⟨t,rfl⟩:=rx; exact SeqAt.EqAt.int_int a t' b t
  | str b=>obtain ⟨t,rfl⟩:=rx; exact SeqAt.EqAt.int_str a t' b t
  | _=>exact absurd (show false = true from fx) Bool.false_ne_true
 | str a =>
  obtain ⟨t',rfl⟩:=ry
  cases x with
  | non=>cases rx; exact SeqAt.EqAt.str_none a t'
  | bl b=>cases rx; exact SeqAt.EqAt.str_bool a t' b
  | int b=>obtain ⟨t,rfl⟩:=rx; exact SeqAt.EqAt.str_int a t' b t
  | str b=>obtain ⟨t,rfl⟩:=rx; exact SeqAt.EqAt.str_str a t' b t
  | _=>exact absurd (show false = true from fx) Bool.false_ne_true
 | _=>exact absurd (show false = true from fy) Bool.false_ne_true
def xb (x:V) (u:Value):Bool:=match u with
 | .none=>wO .non x
 | .bool b=>wO (.bl b) x
 | .int i _=>wO (.int i) x
 | .str z _=>wO (.str z) x
 | _=>false
theorem BB {x y:V} {u:Value} (r:aO y u) (f:eM y = true):xb x u = wO y x:=by
 cases y with
 | non=>cases r; rfl
 | bl b=>cases r; rfl
 | int i=>obtain ⟨t,rfl⟩:=r; rfl
 | str z=>obtain ⟨t,rfl⟩:=r; rfl
 | _=>exact absurd (show false = true from f) Bool.false_ne_true
theorem kl {x:V}:∀ {xs:List V} {us:List Value},aN xs us → xs.all eM = true → us.any (xb x) = xs.any fun y=>wO y x
 | _,_,.nil,_=>rfl
 | y :: xs,u :: us,.cons r t,f=>by
  rw [List.all_cons,Bool.and_eq_true] at f
  rw [List.any_cons,List.any_cons,BB r f.1,kl t f.2]
theorem iI {A:Around} {s:Shared} {x:V} {v:Value} (rx:aO x v) (fx:eM x = true):∀ {xs:List V} {us:List Value},aN xs us → xs.all eM = true → ∀ u ∈ us,SeqAt.EqAt A s u v (xb x u)
 | _,_,.nil,_=>fun u hu=>by cases hu
 | y :: xs,u :: us,.cons r t,f=>fun u' hu=>by
  rw [List.all_cons,Bool.and_eq_true] at f
  rcases List.mem_cons.mp hu with rfl | hu
  ·rw [BB r f.1]; exact Bz r rx f.1 fx
  ·exact iI rx fx t f.2 u' hu
def D8 (x:V) (xs:List V):Bool:=xs.any fun y=>wO y x
def Kk (K:PySem.W.Frag) (neg:Bool):R2:=fun x y H Q=>∃ p xs,y = .ref p ∧ (fu K H p xs ∨ fh K H p xs) ∧ eM x = true ∧ xs.all eM = true ∧ Q (.bl (if neg then !D8 x xs else D8 x xs)) H
theorem zQ:kh X (compareOp .In) (Kk X.K false):=by
 intro pins s σ H x y v u Q I rx ry h
 obtain ⟨p,xs,rfl,hq,fx,fs,q⟩:=h
 cases ry
 rcases hq with hq | hq
 ·obtain ⟨its,r,pl,hz⟩:=I.list hq
  refine SeqAt.in_listAt (xb x) pl.isList (fun w hw=>iI rx fx r fs w (by simpa using hw)) ⟨.bl _,H,I,rfl,?_⟩
  rw [show its.toArray.any (xb x) = its.any (xb x) by simp,kl r fs]
  exact q
 ·obtain ⟨its,r,pl,hz⟩:=I.tuple hq
  refine SeqAt.in_tupleAt (xb x) pl (fun w hw=>iI rx fx r fs w (by simpa using hw)) ⟨.bl _,H,I,rfl,?_⟩
  rw [show its.toArray.any (xb x) = its.any (xb x) by simp,kl r fs]
  exact q
theorem km:kh X (compareOp .NotIn) (Kk X.K true):=by
 intro pins s σ H x y v u Q I rx ry h
 obtain ⟨p,xs,rfl,hq,fx,fs,q⟩:=h
 cases ry
 rcases hq with hq | hq
 ·obtain ⟨its,r,pl,hz⟩:=I.list hq
  refine SeqAt.notIn_listAt (xb x) pl.isList (fun w hw=>iI rx fx r fs w (by simpa using hw)) ⟨.bl _,H,I,rfl,?_⟩
  rw [show its.toArray.any (xb x) = its.any (xb x) by simp,kl r fs]
  exact q
 ·obtain ⟨its,r,pl,hz⟩:=I.tuple hq
  refine SeqAt.notIn_tupleAt (xb x) pl (fun w hw=>iI rx fx r fs w (by simpa using hw)) ⟨.bl _,H,I,rfl,?_⟩
  rw [show its.toArray.any (xb x) = its.any (xb x) by simp,kl r fs]
  exact q
theorem kn:dy X (.builtin "len") (fun xs H Q=>∃ p ys,xs = [.ref p] ∧ (fu X.K H p ys ∨ fh X.K H p ys) ∧ Q (.int ys.length) H):=by
 intro pins s σ H xs us Q I r h
 obtain ⟨p,ys,rfl,hq,q⟩:=h
 obtain ⟨u,rfl,rx⟩:=iH r
 cases rx
 have hn:=lJ
 rcases hq with hq | hq
 ·obtain ⟨its,r',pl,hz⟩:=I.list hq
  have hlen:=r'.length
  exact Calls.call_len_list pl.isList (by simp only [List.size_toArray] <;> omega) ⟨.int ys.length,H,I.tok _,⟨s.toks + 1,by rw [List.size_toArray,hlen]⟩,q⟩
 ·obtain ⟨its,r',pl,hz⟩:=I.tuple hq
  have hlen:=r'.length
  exact len_tuple pl (by simp only [List.size_toArray] <;> omega) ⟨.int ys.length,H,I.tok _,⟨s.toks + 1,by rw [List.size_toArray,hlen]⟩,q⟩
theorem gh:dy X (.type "tuple") (fun xs H Q=>∃ p ys,xs = [.ref p] ∧ ((fu X.K H p ys ∧ ∀ l,H l = none → Q (.ref l) (upd H l (.tup ys))) ∨ (fh X.K H p ys ∧ Q (.ref p) H))):=by
 intro pins s σ H xs us Q I r h
 obtain ⟨p,ys,rfl,h⟩:=h
 obtain ⟨u,rfl,rx⟩:=iH r
 cases rx
 rcases h with ⟨hq,q⟩ | ⟨hq,q⟩
 ·obtain ⟨its,r',pl,hz⟩:=I.list hq
  have hlen:=r'.length
  refine call_tuple_list pl.isList (fun h' kp=>?_) (by simp only [List.size_toArray] <;> omega)
  have I1:aG X pins σ H { s with heap:=h' }:=I.kept (t':=s.toks) kp
  have I2:aG X pins σ (upd H h'.objs.size (.tup ys)) { s with heap:=h'.push { cls:=.type "tuple",data:=.seq its.toArray } } :=
   I1.laid (t':=s.toks) (fun b o e=>Heap.get?_push_of_some _ e) (Nat.le_refl _) (show cg X.prog X.w _ _ _ (.tup ys) from ⟨hz,its,r',IsTup.new _ _⟩)
  exact ⟨.ref h'.objs.size,_,I2,rfl,q _ (I1.hok.fresh (Nat.le_refl _))⟩
 ·obtain ⟨its,r',pl,hz⟩:=I.tuple hq
  exact call_tuple_same pl ⟨.ref p,H,I,rfl,q⟩

def K1 (K:PySem.W.Frag) (T:String) (x:V) (H:Hp):Prop:=match x with
 | .str _=>T = "str"
 | .int _=>T = "int"
 | .ref p=>(T = "list" ∧ ∃ xs,fu K H p xs) ∨ (T = "tuple" ∧ ∃ o,K.lookup p = some o ∧ o.cls = .type "tuple" ∧ o.dict = none) ∨
   (T = "dict" ∧ ((∃ kvs,H p = some (.dK kvs)) ∨ ∃ kvs,H p = some (.dT kvs))) ∨ (T = "set" ∧ ∃ S n,H p = some (.set S n))
 | _=>False
theorem GV {T:String} {x:V} {v:Value} (I:aG X pins σ H s) (r:aO x v) (ty:K1 X.K T x H) :
  s.TypeIs v T ∧ ∀ a,v = .ref a → ∃ ob,s.heap.get? a = some ob ∧ ob.dict = none:=by
 cases x with
 | str z =>
  obtain ⟨t,rfl⟩:=r
  cases (show T = "str" from ty)
  exact ⟨typeIs_str s z t,fun _ e=>nomatch e⟩
 | int i =>
  obtain ⟨t,rfl⟩:=r
  cases (show T = "int" from ty)
  exact ⟨typeIs_int s i t,fun _ e=>nomatch e⟩
 | ref p =>
  cases r
  rcases ty with ⟨rfl,xs,hq⟩ | ⟨rfl,o,hk,hc,hd⟩ | ⟨rfl,hk⟩ | ⟨rfl,S,n,hk⟩
  ·obtain ⟨its,_,pl,_⟩:=I.list hq
   refine ⟨pl.isList.typeIs,fun a e=>?_⟩
   cases e
   obtain ⟨o,n,e,c,hd,_⟩:=pl
   exact ⟨o,e,hd⟩
  ·refine ⟨⟨o,I.kIn p o hk,hc⟩,fun a e=>?_⟩
   cases e
   exact ⟨o,I.kIn _ o hk,hd⟩
  ·have z:∃ o,s.heap.get? p = some o ∧ o.ExactDict:=by
    rcases hk with ⟨kvs,hk⟩ | ⟨kvs,hk⟩
    ·obtain ⟨_,_,_,_,o,_,_,e,ex,_⟩:=I.hok p _ hk
     exact ⟨o,e,ex⟩
    ·obtain ⟨_,_,_,_,o,_,_,e,ex,_⟩:=I.hok p _ hk
     exact ⟨o,e,ex⟩
   obtain ⟨o,e,ex⟩:=z
   refine ⟨⟨o,e,ex.1⟩,fun a e2=>?_⟩
   cases e2
   exact ⟨o,e,ex.2.1⟩
  ·obtain ⟨o,_,_,_,e,ex,_⟩:=I.hok p _ hk
   refine ⟨⟨o,e,ex.1⟩,fun a e2=>?_⟩
   cases e2
   exact ⟨o,e,ex.2.1⟩
 | _=>exact False.elim ty
def Kl (K:PySem.W.Frag) (T:String) (r:V → List V → Hp → VK → Prop) (to:TE) (t:TA):TE:=fun σ H Q=>to σ H fun x H1=>K1 K T x H1 ∧ t σ H1 fun xs H2=>r x xs H2 Q
variable {o e:Expr} {to:TE} {t:TA} {name:Str} {apos cpos:Pos} {T id:String} {r:V → List V → Hp → VK → Prop}
theorem iJ (pa:PlainAttrs T) (slot:Slot T name id) (hty:typeOf (.builtin id) = pure (.type "method_descriptor")) (hm:K8 X id r) (ho:PE X o to) (ha:PA X (e :: es) t)
  (hbase:attributeBase o name X.env (eval o X.env) = eval o X.env:=by with_unfolding_all rfl)
  (hfew:((backTo cpos (starEach (e :: es) X.env)).all (fun x=>!x.1) && (backToKw cpos (keywordEach [] X.env)).all (fun x=>x.1.isSome)
   && decide ((e :: es).length + ([]:List Keyword).length + (if ([]:List Keyword).isEmpty then 0 else 1) < 30)) = true:=by with_unfolding_all rfl)
  (hline:(apos.endLine == cpos.line) = true:=by with_unfolding_all rfl) (hs:starEach (e :: es) X.env = (false,eval e X.env) :: starEach es X.env:=by with_unfolding_all rfl) (hplain:(backTo cpos (starEach es X.env)).any (·.1) = false:=by with_unfolding_all rfl) :
  PE X (.Call (.Attribute o name apos) (e :: es) [] cpos) (Kl X.K T r to t):=by
 intro pins s σ H Q I h
 refine wpAny_Call_method_late hbase hfew hline rfl (bw (ho pins s σ H _ I h) fun v s1 ⟨x,H1,I1,r1,ty,q1⟩=>?_)
 obtain ⟨h1,h2⟩:=GV I1 r1 ty
 refine ⟨T,id,pa,slot,hty,h1,h2,?_⟩
 have hA:=ha cpos pins s1 σ H1 _ I1 q1
 rw [hs] at hA ⊢
 refine Calls.callWith_builtin (by show (false || (backTo cpos (starEach es X.env)).any (·.1)) = false; rw [hplain] <;> rfl) (Calls.evalArgs_plain ?_)
 exact bw hA fun us s2 ⟨vs,H2,I2,r2,q2⟩=>hm pins s2 σ H2 x vs v us Q I2 r1 r2 q2
end
def Km (X:Cx) (id:String) (r:V → List V → Hp → VK → Prop):Prop :=
 ∀ (pins:List (Addr × Obj)) (s:Shared) (σ:St) (H:Hp) (x:V) (xs:List V) (v:Value) (us:List Value) (Q:VK),aG X pins σ H s → aO x v → aN xs us → r x xs H Q →
  wpAny (model X.prog X.w) X.A (call (.builtin id) (v :: us)) (EP X pins σ Q) X.xe s

theorem aN.one:∀ {x:V} {us:List Value},aN [x] us → ∃ u,us = [u] ∧ aO x u
 | _,_,.cons r .nil=>⟨_,rfl,r⟩
theorem aN.rep (h:aN xs us):∀ k:Nat,aN (List.replicate k xs).flatten (List.replicate k us).flatten
 | 0=>.nil
 | k + 1=>by
  rw [List.replicate_succ,List.replicate_succ,List.flatten_cons,List.flatten_cons]
  exact aN.append h (aN.rep h k)
theorem rS (its:List Value):∀ (k:Nat) (acc:List Value),
  List.foldl (fun x1 x2=>x1 ++ x2) acc.toArray (List.replicate k its.toArray) = (acc ++ (List.replicate k its).flatten).toArray
 | 0,acc=>by simp
 | k + 1,acc=>by
  have e:acc.toArray ++ its.toArray = (acc ++ its).toArray:=by simp
  have e2:(acc ++ its) ++ (List.replicate k its).flatten = acc ++ (List.replicate (k + 1) its).flatten:=by
   rw [List.replicate_succ,List.flatten_cons,List.append_assoc]
  rw [← e2,← rS its k (acc ++ its),← e,List.replicate_succ,List.foldl_cons]

section
variable {l b:Addr} {xs ys zs:List V}
theorem aG.lset {its its':List Value} {n:Nat} {f:Array Value → Array Value} {t':Nat} (I:aG X pins σ H s) (hH:H l = some (.lst xs))
  (e:s.heap.get? l = some { cls:=.type "list",data:=.seq its.toArray n }) (hf:f its.toArray = its'.toArray) (hv:aN ys its') (hz:ys.length ≤ sizeLine) :
  aG X pins σ (upd H l (.lst ys)) { s with heap:=s.heap.update l (Obj.mapSeq f),toks:=t' }:=by
 have q:=PySem.IsL.update e f
 rw [hf] at q
 refine I.write (x:=l) (e:=l) (by rw [hH]; exact trivial) (.inl rfl) (fun b' u hb hu=>(Heap.get?_update_other s.heap (Obj.mapSeq f) (Ne.symm hb)).trans hu) ⟨_,q⟩ ?_
 exact ⟨hz,its',_,hv,q⟩
theorem aG.lnew {its:List Value} {t':Nat} (I:aG X pins σ H s) (hv:aN ys its) (hz:ys.length ≤ sizeLine) :
  aG X pins σ (upd H s.heap.objs.size (.lst ys)) { s with heap:=s.heap.push { cls:=.type "list",data:=.seq its.toArray },toks:=t' } :=
 I.laid (fun _ _ q=>Heap.get?_push_of_some _ q) (Nat.le_refl _) ⟨hz,its,0,hv,Heap.get?_push_size _ rfl⟩
theorem aG.fresh (I:aG X pins σ H s):H s.heap.objs.size = none:=I.hok.fresh (Nat.le_refl _)
theorem aG.lstM (I:aG X pins σ H s) (hH:H l = some (.lst xs)):xs.length ≤ sizeLine ∧ ∃ (its:List Value) (n:Nat),aN xs its ∧ xs.length = its.length ∧ s.heap.get? l = some { cls:=.type "list",data:=.seq its.toArray n }:=by
 obtain ⟨z,its,n,r,e⟩:=I.hok l _ hH
 exact ⟨z,its,n,r,r.length,e⟩

theorem vq {n:Nat} (h:n ≤ sizeLine):Builtin.List.listTooLong n = false:=by
 unfold Builtin.List.listTooLong
 exact decide_eq_false (by omega)
end
section
def Es:V → List V → Hp → VK → Prop:=fun x vs H Q=>∃ l xs y,x = .ref l ∧ vs = [y] ∧ H l = some (.lst xs) ∧ xs.length < sizeLine ∧ Q .non (upd H l (.lst (xs ++ [y])))
theorem zR:Km X "list.append" Es:=by
 intro pins s σ H x vs v us Q I rx rv h
 obtain ⟨l,xs,y,rfl,rfl,hH,hz,q⟩:=h
 cases rx
 obtain ⟨u,rfl,ru⟩:=rv.one
 obtain ⟨z,its,n,r,hl,e⟩:=I.lstM hH
 refine call_meets F.slot_list_append ⟨_,e,rfl⟩ F.entry_list_append (F.args_list_append_2 _ _) (PySem.list_append l its.toArray n u (by rw [List.size_toArray]; omega)) ⟨e,?_⟩
 refine ⟨.non,_,I.lset (its':=its ++ [u]) hH e (by simp) (r.append (.cons ru .nil)) ?_,rfl,q⟩
 rw [List.length_append,List.length_singleton]
 omega

def yC:V → List V → Hp → VK → Prop:=fun x vs H Q=>∃ l b xs zs,x = .ref l ∧ vs = [.ref b] ∧ H l = some (.lst xs) ∧ H b = some (.lst zs) ∧ xs.length + zs.length ≤ sizeLine ∧ Q .non (upd H l (.lst (xs ++ zs)))
theorem jc:Km X "list.extend" yC:=by
 intro pins s σ H x vs v us Q I rx rv h
 obtain ⟨l,b,xs,zs,rfl,rfl,hH,hB,hz,q⟩:=h
 cases rx
 obtain ⟨u,rfl,ru⟩:=rv.one
 cases ru
 obtain ⟨z,its,n,r,hl,e⟩:=I.lstM hH
 obtain ⟨z2,its2,n2,r2,hl2,e2⟩:=I.lstM hB
 have hsz:its.toArray.size + its2.toArray.size ≤ sizeLine:=by rw [List.size_toArray,List.size_toArray]; omega
 have hlong:¬ (!its.toArray.isEmpty && Builtin.List.listTooLong (its.toArray.size + its2.toArray.size)) = true:=by
  rw [vq hsz,Bool.and_false]
  exact Bool.false_ne_true
 refine call_meets F.slot_list_extend ⟨_,e,rfl⟩ F.entry_list_extend (F.args_list_extend_2 _ _)
  (AutoSeq1.list_extend_list_list_0 l its.toArray n b its2.toArray n2 hlong (by rw [List.size_toArray]; omega) (by omega)) ⟨e,e2,?_⟩
 refine ⟨.non,_,I.lset (its':=its ++ its2) hH e (by simp) (r.append r2) ?_,rfl,q⟩
 rw [List.length_append]
 omega

def Kn:R2:=fun x y H Q=>∃ l b xs zs,x = .ref l ∧ y = .ref b ∧ H l = some (.lst xs) ∧ H b = some (.lst zs) ∧ xs.length + zs.length ≤ sizeLine ∧ ∀ p,H p = none → Q (.ref p) (upd H p (.lst (xs ++ zs)))
theorem GW:kh X (binaryOp .Add) Kn:=by
 intro pins s σ H x y v u Q I rx ry h
 obtain ⟨l,b,xs,zs,rfl,rfl,hH,hB,hz,q⟩:=h
 cases rx
 cases ry
 obtain ⟨z,its,n,r,hl,e⟩:=I.lstM hH
 obtain ⟨z2,its2,n2,r2,hl2,e2⟩:=I.lstM hB
 refine PySem.P.add_list e e2 ?_ (by rw [List.size_toArray,List.size_toArray]; omega)
 have ea:its.toArray ++ its2.toArray = (its ++ its2).toArray:=by simp
 rw [ea]
 exact ⟨.ref _,_,I.lnew (t':=s.toks) (r.append r2) (by rw [List.length_append]; omega),rfl,q _ I.fresh⟩
def Jb:R2:=fun x y H Q=>∃ l k xs,x = .ref l ∧ y = .int k ∧ H l = some (.lst xs) ∧ -(2 ^ 63) ≤ k ∧ k < 2 ^ 63 ∧ xs.length * k.toNat ≤ sizeLine ∧
 ∀ p,H p = none → Q (.ref p) (upd H p (.lst (List.replicate k.toNat xs).flatten))
theorem Et {α:Type} (xs:List α) (k:Nat):(List.replicate k xs).flatten.length = k * xs.length:=by
 induction k with
 | zero=>simp
 | succ k ih=>rw [List.replicate_succ,List.flatten_cons,List.length_append,ih,Nat.succ_mul,Nat.add_comm]
theorem tF:kh X (binaryOp .Mult) Jb:=by
 intro pins s σ H x y v u Q I rx ry h
 obtain ⟨l,k,xs,rfl,rfl,hH,h1,h2,hz,q⟩:=h
 cases rx
 obtain ⟨t,rfl⟩:=ry
 obtain ⟨z,its,n,r,hl,e⟩:=I.lstM hH
 have hlen:its.toArray.size * k.toNat ≤ sizeLine:=by rw [List.size_toArray,← hl]; exact hz
 have hcap:¬ its.toArray.size * k.toNat > (2 ^ 63 - 1) / 8:=by
  have:(sizeLine:Nat) ≤ (2 ^ 63 - 1) / 8:=by decide
  omega
 have hfit:¬ (!Builtin.List.listFitsIndex k) = true:=by
  rw [fitsIndex_both h1 h2]
  exact Bool.false_ne_true
 have hlong:¬ Builtin.List.listTooLong (its.toArray.size * k.toNat) = true:=by
  rw [vq hlen]
  exact Bool.false_ne_true
 have hnew:List.foldl (fun x1 x2=>x1 ++ x2) #[] (List.replicate (if its.toArray.isEmpty = true then 0 else k.toNat) its.toArray) = (List.replicate k.toNat its).flatten.toArray:=by
  have f0:∀ m:Nat,List.foldl (fun x1 x2=>x1 ++ x2) #[] (List.replicate m its.toArray) = (List.replicate m its).flatten.toArray:=fun m=>by
   have:=rS its m []
   rw [List.nil_append] at this
   exact this
  rw [f0]
  cases its with
  | nil=>simp
  | cons a r'=>rw [if_neg (by simp)]
 refine wpAny_binaryOp_repeat_ref (T:="list") (U:="int") (by decide) ⟨_,e,rfl⟩ (fun s'=>typeIs_int s' k t) noFill_list_mul F.fills_int_mul F.slot_int_rmul repeat_list F.slot_int_index.lookup
  (call_meets F.slot_int_rmul (typeIs_int s k t) F.entry_int_rmul (F.args_int_rmul_2 _ _) (int___rmul___int_list k t l its.toArray n)
   ⟨e,rfl,⟨_,e,rfl⟩,call_meets F.slot_list_mul ⟨_,e,rfl⟩ F.entry_list_mul (F.args_list_mul_2 _ _) (AutoListH.list___mul___list_int_3 l its.toArray n k t hfit hcap hlong) ⟨e,?_⟩⟩)
 rw [hnew]
 exact ⟨.ref _,_,I.lnew (t':=s.toks) (r.rep k.toNat) (by rw [Et,Nat.mul_comm]; exact hz),rfl,q _ I.fresh⟩

end
section
end
section
end
section
variable {κ:Type} [DecidableEq κ]
def cX (kvs:List (κ × V)) (k:κ):Option V:=(kvs.find? fun kv=>decide (kv.1 = k)).map (·.2)
def cR (kvs:List (κ × V)) (k:κ) (v:V):List (κ × V) :=
 if (kvs.any fun kv=>decide (kv.1 = k)) = true then kvs.map (fun kv=>if kv.1 = k then (kv.1,v) else kv) else kvs ++ [(k,v)]
def gw (kvs:List (κ × V)) (k:κ):List (κ × V):=kvs.filter fun kv=>decide (kv.1 ≠ k)

theorem oy {p:κ × V} {r:List (κ × V)} {k:κ} (e:p.1 = k):cX (p :: r) k = some p.2:=by simp [cX,List.find?_cons,e]
theorem kq {p:κ × V} {r:List (κ × V)} {k:κ} (e:¬ p.1 = k):cX (p :: r) k = cX r k:=by simp [cX,List.find?_cons,e]
theorem oz (k:κ):∀ kvs:List (κ × V),(kvs.any fun kv=>decide (kv.1 = k)) = (cX kvs k).isSome
 | []=>rfl
 | p :: r=>by
  rw [List.any_cons]
  by_cases e:p.1 = k
  ·simp only [oy e,decide_eq_true e,Bool.true_or,Option.isSome_some]
  ·rw [kq e,decide_eq_false e,Bool.false_or]; exact oz k r
theorem iK (kvs:List (κ × V)) (k:κ) (v:V):(cR kvs k v).length ≤ kvs.length + 1:=by
 unfold cR
 split
 ·rw [List.length_map]; omega
 ·rw [List.length_append,List.length_cons,List.length_nil]; omega
theorem eV.isSome_eq {o:Option V} {u:Option Value} (r:eV o u):o.isSome = u.isSome:=by
 cases o with
 | none=>cases u with
  | none=>rfl
  | some _=>exact (show False from r).elim
 | some _=>cases u with
  | none=>exact (show False from r).elim
  | some _=>rfl
theorem eV.getD {o:Option V} {u:Option Value} {d:V} {d':Value} (r:eV o u) (rd:aO d d'):aO (o.getD d) (u.getD d'):=by
 cases o with
 | none=>cases u with
  | none=>exact rd
  | some _=>exact (show False from r).elim
 | some _=>cases u with
  | none=>exact (show False from r).elim
  | some _=>exact r

theorem KV.val {kvs:List (κ × V)} {vs:List (κ × Value)} (r:KV kvs vs) (k:κ):eV (cX kvs k) (valueAt vs k):=by
 unfold KV at r
 induction r with
 | nil=>exact True.intro
 | @cons p q ps qs h t ih =>
  obtain ⟨h1,h2⟩:=h
  by_cases e:p.1 = k
  ·have e':q.1 = k:=h1.symm.trans e
   have b:valueAt (q :: qs) k = some q.2:=by simp [valueAt,List.find?_cons,e']
   rw [oy e,b]; exact h2
  ·have e':¬ q.1 = k:=fun z=>e (h1.trans z)
   have b:valueAt (q :: qs) k = valueAt qs k:=by simp [valueAt,List.find?_cons,e']
   rw [kq e,b]; exact ih
theorem KV.any {kvs:List (κ × V)} {vs:List (κ × Value)} (r:KV kvs vs) (k:κ):(kvs.any fun kv=>decide (kv.1 = k)) = vs.any fun kv=>decide (kv.1 = k):=by
 unfold KV at r
 induction r with
 | nil=>rfl
 | cons h t ih=>rw [List.any_cons,List.any_cons,ih,h.1]
theorem KV.repl {kvs:List (κ × V)} {vs:List (κ × Value)} (r:KV kvs vs) (k:κ) {y:V} {u:Value} (ry:aO y u) :
  KV (kvs.map fun kv=>if kv.1 = k then (kv.1,y) else kv) (vs.map fun kv=>if kv.1 = k then (kv.1,u) else kv):=by
 unfold KV at r ⊢
 induction r with
 | nil=>exact .nil
 | @cons p q ps qs h t ih =>
  rw [List.map_cons,List.map_cons]
  refine .cons ?_ ih
  obtain ⟨h1,h2⟩:=h
  by_cases e:p.1 = k
  ·rw [if_pos e,if_pos (h1.symm.trans e)]; exact ⟨h1,ry⟩
  ·rw [if_neg e,if_neg (fun z=>e (h1.trans z))]; exact ⟨h1,h2⟩
theorem KV.put {kvs:List (κ × V)} {vs:List (κ × Value)} (r:KV kvs vs) (k:κ) {y:V} {u:Value} (ry:aO y u):KV (cR kvs k y) (stored vs k u):=by
 unfold cR stored
 rw [r.any k]
 by_cases e:(vs.any fun kv=>decide (kv.1 = k)) = true
 ·rw [if_pos e,if_pos e]; exact r.repl k ry
 ·rw [if_neg e,if_neg e]; exact Paired.snoc r ⟨rfl,ry⟩
theorem KV.drop {kvs:List (κ × V)} {vs:List (κ × Value)} (r:KV kvs vs) (k:κ):KV (gw kvs k) (without vs k):=by
 unfold KV at r ⊢
 unfold gw without
 induction r with
 | nil=>exact .nil
 | @cons p q ps qs h t ih =>
  obtain ⟨h1,h2⟩:=h
  rw [List.filter_cons,List.filter_cons]
  by_cases e:p.1 = k
  ·have a:¬ decide (p.1 ≠ k) = true:=by simp [e]
   have b:¬ decide (q.1 ≠ k) = true:=by simp [h1.symm.trans e]
   rw [if_neg a,if_neg b]; exact ih
  ·have e':¬ q.1 = k:=fun z=>e (h1.trans z)
   have a:decide (p.1 ≠ k) = true:=by simp [e]
   have b:decide (q.1 ≠ k) = true:=by simp [e']
   rw [if_pos a,if_pos b]; exact .cons ⟨h1,h2⟩ ih
theorem KV.length {kvs:List (κ × V)} {vs:List (κ × Value)} (r:KV kvs vs):kvs.length = vs.length:=Paired.length r
theorem vt (kvs:List (κ × V)) (k:κ):(gw kvs k).length ≤ kvs.length:=List.length_filter_le _ _
end
theorem iL {k:bj} {u:Value} (r:aO (kV k) u):(aU P w).is k u = true:=by
 cases k with
 | inl i=>obtain ⟨t,e⟩:=(show ∃ t,u = Value.int i t from r); subst e; exact vc P w i t
 | inr x=>obtain ⟨t,e⟩:=(show ∃ t,u = Value.str x t from r); subst e; exact iE P w x t
theorem rT {P:Program} {w:World}:∀ {ks:List bj} {us:List Value},aN (ks.map kV) us → ItemsAre (aU P w) ks us
 | [],_,r=>by rw [List.map_nil] at r; cases r; exact .nil
 | k :: ks,_,r=>by
  rw [List.map_cons] at r
  cases r with
  | cons h t=>exact .cons (iL h) (rT t)

abbrev KT (H:Hp):List (List bj × V) → List (List bj × Addr × Value) → Prop:=Paired fun p q=>p.1 = q.1 ∧ H q.2.1 = some (.tup (p.1.map kV)) ∧ aO p.2 q.2.2
theorem KT.val {kvs:List (List bj × V)} {xs:List (List bj × Addr × Value)} (r:KT H kvs xs) (k:List bj):eV (cX kvs k) ((atKey xs k).map (·.2)):=by
 induction r with
 | nil=>exact True.intro
 | @cons p q ps qs h t ih =>
  obtain ⟨h1,_,h2⟩:=h
  by_cases e:p.1 = k
  ·have e':q.1 = k:=h1.symm.trans e
   have b:atKey (q :: qs) k = some q.2:=by simp [atKey,List.find?_cons,e']
   rw [oy e,b]; exact h2
  ·have e':¬ q.1 = k:=fun z=>e (h1.trans z)
   have b:atKey (q :: qs) k = atKey qs k:=by simp [atKey,List.find?_cons,e']
   rw [kq e,b]; exact ih
theorem KT.repl {kvs:List (List bj × V)} {xs:List (List bj × Addr × Value)} (r:KT H kvs xs) (k:List bj) {y:V} {u:Value} (ry:aO y u) :
  KT H (kvs.map fun kv=>if kv.1 = k then (kv.1,y) else kv) (xs.map (putAt k u)):=by
 induction r with
 | nil=>exact .nil
 | @cons p q ps qs h t ih =>
  rw [List.map_cons,List.map_cons]
  refine .cons ?_ ih
  obtain ⟨h1,h2,h3⟩:=h
  unfold putAt
  by_cases e:p.1 = k
  ·rw [if_pos e,if_pos (h1.symm.trans e)]; exact ⟨h1,h2,ry⟩
  ·rw [if_neg e,if_neg (fun z=>e (h1.trans z))]; exact ⟨h1,h2,h3⟩
theorem KT.put {kvs:List (List bj × V)} {xs:List (List bj × Addr × Value)} (r:KT H kvs xs) (k:List bj) {b:Addr} {y:V} {u:Value} (hb:H b = some (.tup (k.map kV))) (ry:aO y u) :
  KT H (cR kvs k y) (storedH xs k b u):=by
 have e:(kvs.any fun kv=>decide (kv.1 = k)) = (atKey xs k).isSome:=by
  rw [oz,(r.val k).isSome_eq,Option.isSome_map]
 unfold cR storedH
 rw [e]
 by_cases q:(atKey xs k).isSome = true
 ·rw [if_pos q,if_pos q]; exact r.repl k ry
 ·rw [if_neg q,if_neg q]; exact Paired.snoc r ⟨rfl,hb,ry⟩
theorem KT.keeps {H H':Hp} {kvs:List (List bj × V)} {xs:List (List bj × Addr × Value)} (r:KT H kvs xs) (ht:∀ b ys,H b = some (.tup ys) → H' b = some (.tup ys)):KT H' kvs xs :=
 Paired.mapP r fun _ _ z=>⟨z.1,ht _ _ z.2.1,z.2.2⟩

section
variable {h:Heap} {a:Addr}
theorem FW {u:HO} (ok:iF P w H h) (e:Rd H a u):cg P w H h a u:=e.ok ok
theorem mC {kvs:List (bj × V)} (ok:iF P w H h) (e:Rd H a (.dK kvs)):kvs.length ≤ sizeLine ∧ (a == sysModules) = false ∧ ∃ vs,KV kvs vs ∧ h.DictOf (aU P w) a vs :=
 show cg P w H h a (.dK kvs) from FW ok e
theorem vv {kvs:List (bj × V)} (ok:iF P w H h) (e:H a = some (.dK kvs)):kvs.length ≤ sizeLine ∧ (a == sysModules) = false ∧ ∃ vs,KV kvs vs ∧ h.DictOf (aU P w) a vs:=mC ok (.inl e)
theorem dc {ks:List bj} (ok:iF P w H h) (e:H a = some (.tup (ks.map kV))):(tupleKind (aU P w)).is h ks a:=by
 obtain ⟨_,its,r,o,h1,h2,n,h3⟩:=(show cg P w H h a (.tup (ks.map kV)) from ok a _ e)
 exact ⟨o,its.toArray,n,h1,h2,h3,by simpa using rT r⟩
theorem mD {kvs:List (List bj × V)} (ok:iF P w H h) (e:Rd H a (.dT kvs)):kvs.length ≤ sizeLine ∧ (a == sysModules) = false ∧
  ∃ xs,KT H kvs xs ∧ h.DictOfH (tupleKind (aU P w)) a xs:=by
 obtain ⟨z,y,xs,r,o,es,ep,h1,h2,h3,h4,h5⟩:=(show cg P w H h a (.dT kvs) from FW ok e)
 refine ⟨z,y,xs,r,o,es,ep,h1,h2,h3,h4,fun x hx=>?_,h5⟩
 have all:∀ {l:List (List bj × V)} {m:List (List bj × Addr × Value)},KT H l m → ∀ x ∈ m,(tupleKind (aU P w)).is h x.1 x.2.1:=by
  intro l m q
  induction q with
  | nil=>intro x hx; exact nomatch hx
  | @cons p q ps qs hq t ih =>
   intro x hx
   rcases List.mem_cons.mp hx with e | hx
   ·subst e
    exact dc ok (by rw [← hq.1]; exact hq.2.1)
   ·exact ih x hx
 exact all r x hx
theorem FX {kvs:List (List bj × V)} (ok:iF P w H h) (e:H a = some (.dT kvs)):kvs.length ≤ sizeLine ∧ (a == sysModules) = false ∧
  ∃ xs,KT H kvs xs ∧ h.DictOfH (tupleKind (aU P w)) a xs:=mD ok (.inl e)
end
def gY (H:Hp) (a:Addr) (y:V) (r:Option V):Prop :=
 (∃ kvs k,Rd H a (.dK kvs) ∧ y = kV k ∧ r = cX kvs k) ∨ ∃ kvs k b,Rd H a (.dT kvs) ∧ y = .ref b ∧ H b = some (.tup (k.map kV)) ∧ r = cX kvs k
def qt (H:Hp) (a:Addr) (y v:V) (H':Hp):Prop :=
 (∃ kvs k,H a = some (.dK kvs) ∧ y = kV k ∧ kvs.length < sizeLine ∧ H' = upd H a (.dK (cR kvs k v))) ∨
 ∃ kvs k b,H a = some (.dT kvs) ∧ y = .ref b ∧ H b = some (.tup (k.map kV)) ∧ kvs.length < sizeLine ∧ H' = upd H a (.dT (cR kvs k v))
theorem gY.k {H:Hp} {a:Addr} {kvs:List (bj × V)} {k:bj} (e:H a = some (.dK kvs)):gY H a (kV k) (cX kvs k):=.inl ⟨kvs,k,.inl e,rfl,rfl⟩
theorem qt.k {H:Hp} {a:Addr} {kvs:List (bj × V)} {k:bj} {v:V} (e:H a = some (.dK kvs)) (hl:kvs.length < sizeLine):qt H a (kV k) v (upd H a (.dK (cR kvs k v))):=.inl ⟨kvs,k,e,rfl,hl,rfl⟩
theorem qt.t {H:Hp} {a b:Addr} {kvs:List (List bj × V)} {k:List bj} {v:V} (e:H a = some (.dT kvs)) (eb:H b = some (.tup (k.map kV))) (hl:kvs.length < sizeLine) :
  qt H a (.ref b) v (upd H a (.dT (cR kvs k v))):=.inr ⟨kvs,k,b,e,rfl,eb,hl,rfl⟩


section
variable {a:Addr} {y v:V} {u r:Value} {o:Option V}
theorem aG.big (I:aG X pins σ H s):sysModules < s.heap.objs.size:=by
 have h:mainGlobals < s.heap.objs.size:=(I.mod.glob.keeps I.bk).lt
 exact Nat.lt_trans (by decide) h

theorem rV {Q:Value → Shared → Prop} (hu:A.units + 1 < cLine) (I:aG X pins σ H s) (g:gY H a y (some v)) (ry:aO y u) (h:∀ w' s',aG X pins σ H s' → aO v w' → Q w' s') :
  wpAny (model X.prog X.w) A (getItem (.ref a) u) Q E s:=by
 rcases g with ⟨kvs,k,e,ey,l⟩ | ⟨kvs,k,b,e,ey,eb,l⟩
 ·subst ey
  obtain ⟨z,hd,vs,rel,dd⟩:=mC I.hok e
  obtain ⟨w',hw,rw'⟩:=eV.some_of (v:=v) (o:=valueAt vs k) (by rw [l]; exact rel.val k)
  exact wpAny_getItem_of (iL ry) dd.mapOf hw (h w' _ (I.tok _) rw')
 ·subst ey
  cases (show u = Value.ref b from ry)
  obtain ⟨z,hd,xs,rel,dd⟩:=mD I.hok e
  obtain ⟨w',hw,rw'⟩:=eV.some_of (v:=v) (o:=(atKey xs k).map (·.2)) (by rw [l]; exact rel.val k)
  obtain ⟨p,hp,hp2⟩:=Option.map_eq_some_iff.mp hw
  refine wpAny_getItem_heap (tupleKind_room_in1 hu) (dc I.hok eb) dd hp ?_
  rw [hp2]
  exact h w' _ (I.tok _) rw'
theorem Ko {Q:Value → Shared → Prop} (hu:A.units + 1 < cLine) (I:aG X pins σ H s) (g:gY H a y o) (ry:aO y u) (h:∀ s',aG X pins σ H s' → Q (.bool o.isSome) s') :
  wpAny (model X.prog X.w) A (compareOp .In u (.ref a)) Q E s:=by
 rcases g with ⟨kvs,k,e,ey,l⟩ | ⟨kvs,k,b,e,ey,eb,l⟩
 ·subst ey
  obtain ⟨z,hd,vs,rel,dd⟩:=mC I.hok e
  refine wpAny_in_of (iL ry) hd dd.mapOf ?_
  rw [← (rel.val k).isSome_eq,← l]
  exact h _ (I.tok _)
 ·subst ey
  cases (show u = Value.ref b from ry)
  obtain ⟨z,hd,xs,rel,dd⟩:=mD I.hok e
  refine wpAny_in_heap (tupleKind_room_in1 hu) (dc I.hok eb) hd dd ?_
  have q:=(rel.val k).isSome_eq
  rw [Option.isSome_map] at q
  rw [← q,← l]
  exact h _ (I.tok _)
theorem Eu {Q:Value → Shared → Prop} (hu:A.units + 1 < cLine) (I:aG X pins σ H s) (g:gY H a y o) (ry:aO y u) (h:∀ s',aG X pins σ H s' → Q (.bool (!o.isSome)) s') :
  wpAny (model X.prog X.w) A (compareOp .NotIn u (.ref a)) Q E s:=by
 rcases g with ⟨kvs,k,e,ey,l⟩ | ⟨kvs,k,b,e,ey,eb,l⟩
 ·subst ey
  obtain ⟨z,hd,vs,rel,dd⟩:=mC I.hok e
  refine wpAny_notIn_of (iL ry) hd dd.mapOf ?_
  rw [← (rel.val k).isSome_eq,← l]
  exact h _ (I.tok _)
 ·subst ey
  cases (show u = Value.ref b from ry)
  obtain ⟨z,hd,xs,rel,dd⟩:=mD I.hok e
  refine wpAny_notIn_heap (tupleKind_room_in1 hu) (dc I.hok eb) hd dd ?_
  have q:=(rel.val k).isSome_eq
  rw [Option.isSome_map] at q
  rw [← q,← l]
  exact h _ (I.tok _)
theorem kr {h':Heap} {t':Nat} {ob:HO} (I:aG X pins σ H s) (mu:ID (H a)) (hs:Heap.SameBut a s.heap h') (he:∃ q,h'.get? a = some q) (new:cg X.prog X.w (upd H a ob) h' a ob) :
  aG X pins σ (upd H a ob) { s with heap:=h',toks:=t' } :=
 I.write (x:=a) (e:=a) mu (.inl rfl) (fun b q hb z=>(hs.2 b hb).trans z) he new
theorem xf {H':Hp} {h':Heap} {kvs:List (bj × V)} {vs:List (bj × Value)} (z:kvs.length ≤ sizeLine) (hd:(a == sysModules) = false) (rel:KV kvs vs) (dd:h'.DictOf (aU P w) a vs) :
  cg P w H' h' a (.dK kvs):=⟨z,hd,vs,rel,dd⟩
theorem rW {H':Hp} {Q:Unit → Shared → Prop} (hu:A.units + 1 < cLine) (I:aG X pins σ H s) (g:qt H a y v H') (ry:aO y u) (rv:aO v r) (h:∀ s',aG X pins σ H' s' → Q () s') :
  wpAny (model X.prog X.w) A (setItem (.ref a) u r) Q E s:=by
 rcases g with ⟨kvs,k,e,ey,l,eH⟩ | ⟨kvs,k,b,e,ey,eb,l,eH⟩
 ·subst ey eH
  obtain ⟨z,hd,vs,rel,dd⟩:=vv I.hok e
  have hz:vs.length ≤ sizeLine:=by rw [← rel.length]; exact z
  have hl:(cR kvs k v).length ≤ sizeLine:=by have:=iK kvs k v; omega
  refine wpAny_setItem_pairs (hsz:=hz) (iL ry) dd fun h' dd' hs=>h _ ?_
  have he:∃ q,h'.get? a = some q:=let ⟨q,_,_,hq,_⟩:=dd'; ⟨q,hq⟩
  exact kr I (by rw [e]; exact True.intro) hs he (xf hl hd (rel.put k rv) dd')
 ·subst ey eH
  cases (show u = Value.ref b from ry)
  obtain ⟨z,hd,xs,rel,dd⟩:=FX I.hok e
  have hz:xs.length ≤ sizeLine:=by rw [← Paired.length rel]; exact z
  have hl:(cR kvs k v).length ≤ sizeLine:=by have:=iK kvs k v; omega
  refine wpAny_setItem_heap (hsz:=hz) (tupleKind_room_in1 hu) (dc I.hok eb) dd fun h' dd' hs=>h _ ?_
  obtain ⟨q,es,ep,hq,h2,h3,h4,_,h5⟩:=dd'
  refine kr I (by rw [e]; exact True.intro) hs ⟨q,hq⟩ ⟨hl,hd,_,(rel.put k eb rv).keeps fun c ys ec=>?_,q,es,ep,hq,h2,h3,h4,h5⟩
  rw [am (FL ec e (fun z=>nomatch z))]
  exact ec
end
section
variable {a:Addr} {kvs:List (bj × V)} {k:bj} {u:Value}
theorem zS {Q:Unit → Shared → Prop} (I:aG X pins σ H s) (e:H a = some (.dK kvs)) (ry:aO (kV k) u) (l:(cX kvs k).isSome = true) (h:∀ s',aG X pins σ (upd H a (.dK (gw kvs k))) s' → Q () s') :
  wpAny (model X.prog X.w) A (delItem (.ref a) u) Q E s:=by
 obtain ⟨z,hd,vs,rel,dd⟩:=vv I.hok e
 refine wpAny_delItem_slot dd.typeIs (by decide) PySem.F.slot_dict_delitem
  (call_meetsIn PySem.F.slot_dict_delitem dd.typeIs PySem.F.entry_dict_delitem (PySem.F.args_dict_delitem_2 _ _) (meets_dict_delitem_pairs (aU X.prog X.w) a (iL ry)) ⟨vs,dd,by rw [← rel.length]; exact z,by rw [← (rel.val k).isSome_eq]; exact l,fun h' dd' hs=>h _ ?_⟩)
 have he:∃ q,h'.get? a = some q:=let ⟨q,_,_,hq,_⟩:=dd'; ⟨q,hq⟩
 exact kr I (by rw [e]; exact True.intro) hs he (xf (Nat.le_trans (vt kvs k) z) hd (rel.drop k) dd')
end
def BC (i:Expr):Prop:=∀ ov iv,subscripted i false ov iv = operate [ov,iv] (getItem ov iv)
theorem tG {env:Env} {value slice:Expr} {T id:String} {Q:Value → Shared → Prop}
  (hl:typeLookup (.type T) "__getitem__" = pure (some (.builtin id))) (hs:BC slice)
  (h:wpAny (model prog w) A (eval value env) (fun o s₁=>wpAny (model prog w) A (eval slice env) (fun i s₂=>s₂.TypeIs o T ∧ wpAny (model prog w) A (getItem o i) Q E s₂) E s₁) E s) :
  wpAny (model prog w) A (eval (.Subscript value slice pos) env) Q E s:=by
 refine Subscript_ (wpAny_mono h (fun o s₁ h₁=>wpAny_mono h₁ (fun i s₂ h₂=>?_) fun _ _ x=>x) fun _ _ x=>x)
 obtain ⟨hT,h₂⟩:=h₂
 unfold subscriptTail
 refine wpAny_bind ?_
 rw [getitemInPython_of_ne hT.not_modules]
 refine wpAny_bind (wpAny_specialOf hT hl ?_)
 have fin:wpAny (model prog w) A (subscripted slice false o i) (fun r s₃=>wpAny (model prog w) A (letTemporaryGo value o r >>= fun _=>pure r) Q E s₃) E s₂:=by
  rw [hs o i]
  exact wpAny_operating (wpAny_mono h₂ (fun r s₃ h₃=>wpAny_bind (wpAny_letTemporaryGo (wpAny_pure h₃))) fun _ _ x=>x)
 first
  | exact wpAny_pure (wpAny_bind fin)
  | exact wpAny_bind (wpAny_pure (wpAny_bind fin))
  | exact wpAny_bind fin

theorem mE {a:Addr} {y:V} {o:Option V} (I:aG X pins σ H s) (g:gY H a y o):s.TypeIs (.ref a) "dict":=by
 rcases g with ⟨kvs,k,e,_,_⟩ | ⟨kvs,k,b,e,_,_,_⟩
 ·obtain ⟨_,_,vs,_,dd⟩:=mC I.hok e
  exact dd.typeIs
 ·obtain ⟨_,_,xs,_,dd⟩:=mD I.hok e
  exact dd.typeIs
def Jc (td ty:TE):TE:=fun σ H Q=>td σ H fun x H1=>ty σ H1 fun y H2=>∃ a v,x = .ref a ∧ gY H2 a y (some v) ∧ Q v H2
def Jd (ty td:TE):TE:=fun σ H Q=>ty σ H fun y H1=>td σ H1 fun x H2=>∃ a o,x = .ref a ∧ gY H2 a y o ∧ Q (.bl o.isSome) H2
def yD (ty td:TE):TE:=fun σ H Q=>ty σ H fun y H1=>td σ H1 fun x H2=>∃ a o,x = .ref a ∧ gY H2 a y o ∧ Q (.bl (!o.isSome)) H2
def Je (td ty tv:TE):TS:=fun D σ H=>tv σ H fun v H1=>td σ H1 fun x H2=>ty σ H2 fun y H3=>∃ a H4,x = .ref a ∧ qt H3 a y v H4 ∧ D.nx σ H4
section
variable {o i e value:Expr} {pos pos' tpos:Pos} {td ty tv:TE}
theorem Ev (hu:X.A.units + 1 < cLine) (ho:PE X o td) (hi:PE X i ty) (hs:BC i):PE X (.Subscript o i pos) (Jc td ty):=by
 intro pins s σ H Q I h
 refine tG PySem.F.slot_dict_getitem.lookup hs (bw (ho pins s σ H _ I h) fun u s1 ⟨x,H1,I1,rx,q1⟩=>bw (hi pins s1 σ H1 _ I1 q1) fun iv s2 ⟨y,H2,I2,ry,a,v,ex,g,q2⟩=>?_)
 subst ex
 obtain rfl:u = Value.ref a:=rx
 exact ⟨mE I2 g,rV hu I2 g ry fun w' s3 I3 rw'=>⟨v,H2,I3,rw',q2⟩⟩
theorem BD (hu:X.A.units + 1 < cLine) (hi:PE X i ty) (ho:PE X o td):PC X .In i o (Jd ty td):=by
 intro pins s σ H Q I h
 refine bw (hi pins s σ H _ I h) fun iv s1 ⟨y,H1,I1,ry,q1⟩=>bw (ho pins s1 σ H1 _ I1 q1) fun u s2 ⟨x,H2,I2,rx,a,ov,ex,g,q2⟩=>?_
 subst ex
 obtain rfl:u = Value.ref a:=rx
 exact Ko hu I2 g ry fun s3 I3=>⟨.bl ov.isSome,H2,I3,rfl,q2⟩
theorem zT (hu:X.A.units + 1 < cLine) (hi:PE X i ty) (ho:PE X o td):PC X .NotIn i o (yD ty td):=by
 intro pins s σ H Q I h
 refine bw (hi pins s σ H _ I h) fun iv s1 ⟨y,H1,I1,ry,q1⟩=>bw (ho pins s1 σ H1 _ I1 q1) fun u s2 ⟨x,H2,I2,rx,a,ov,ex,g,q2⟩=>?_
 subst ex
 obtain rfl:u = Value.ref a:=rx
 exact Eu hu I2 g ry fun s3 I3=>⟨.bl (!ov.isSome),H2,I3,rfl,q2⟩
theorem Ew (hu:X.A.units + 1 < cLine) (ho:PE X o td) (hi:PE X i ty) (hv:PE X value tv) (hs:swapsWith value (some (.Subscript o i pos')) pos.line X.env = pure false) :
  PS X (.Assign [.Subscript o i pos'] value pos) (Je td ty tv):=by
 intro pins s σ H D I h
 refine wpAny_Assign_Subscript (bw (hv pins s σ H _ I h) fun r s1 ⟨v,H1,I1,rv,q1⟩=>bw (ho pins s1 σ H1 _ I1 q1) fun u s2 ⟨x,H2,I2,rx,q2⟩=>bw (hi pins s2 σ H2 _ I2 q2) fun iv s3 ⟨y,H3,I3,ry,a,H4,ex,g,q3⟩=>?_) hs
 subst ex
 obtain rfl:u = Value.ref a:=rx
 exact rW hu I3 g ry rv fun s4 I4=>⟨σ,H4,I4,q3⟩
end
theorem vw (h:Heap) (hb:sysModules < h.objs.size):cg P w H (h.push { cls:=.type "dict",data:=.dict #[] }) h.objs.size (.dK []) :=
 ⟨Nat.zero_le _,beq_eq_false_iff_ne.mpr (Ne.symm (Nat.ne_of_lt hb)),[],.nil,Heap.DictOf.new h⟩
theorem BH (h:Heap) (hb:sysModules < h.objs.size):cg P w H (h.push { cls:=.type "dict",data:=.dict #[] }) h.objs.size (.dT []) :=
 ⟨Nat.zero_le _,beq_eq_false_iff_ne.mpr (Ne.symm (Nat.ne_of_lt hb)),[],.nil,_,#[],0,Heap.get?_push_size _ rfl,⟨rfl,rfl,rfl⟩,rfl,rfl,List.nodup_nil⟩
def GX:TE:=fun _ H Q=>∀ p,H p = none → Q (.ref p) (upd H p (.dK []))
def GY:TE:=fun _ H Q=>∀ p,H p = none → Q (.ref p) (upd H p (.dT []))
section
theorem vy:PE X (.Dict [] [] pos) GX:=fun pins s σ H Q I h =>
 wpAny_Dict_empty ⟨.ref s.heap.objs.size,_,I.laid (a:=s.heap.objs.size) (o:=.dK []) (t':=s.toks) (fun _ _ q=>Heap.get?_push_of_some _ q) (Nat.le_refl _) (vw s.heap I.big),rfl,h _ (I.hok.fresh (Nat.le_refl _))⟩
theorem BJ:PE X (.Dict [] [] pos) GY:=fun pins s σ H Q I h =>
 wpAny_Dict_empty ⟨.ref s.heap.objs.size,_,I.laid (a:=s.heap.objs.size) (o:=.dT []) (t':=s.toks) (fun _ _ q=>Heap.get?_push_of_some _ q) (Nat.le_refl _) (BH s.heap I.big),rfl,h _ (I.hok.fresh (Nat.le_refl _))⟩
end
def oA:List (TE × TE) → St → Hp → (List (V × V) → Hp → Prop) → Prop
 | [],_,H,Q=>Q [] H
 | (tk,tv) :: r,σ,H,Q=>tk σ H fun x H1=>tv σ H1 fun y H2=>oA r σ H2 fun ps H3=>Q ((x,y) :: ps) H3
abbrev VV:List (V × V) → List (Value × Value) → Prop:=Paired fun p q=>aO p.1 q.1 ∧ aO p.2 q.2
def Jf (X:Cx) (pos:Pos) (keys:List (Option Expr)) (values:List Expr) (trs:List (TE × TE)):Prop :=
 ∀ (pins:List (Addr × Obj)) (s:Shared) (σ:St) (H:Hp) (Q:List (V × V) → Hp → Prop),aG X pins σ H s → oA trs σ H Q →
  wpAny (model X.prog X.w) X.A (evalPairs (pairTrees keys values X.env pos)) (fun vs s'=>∃ ps H',aG X pins σ H' s' ∧ VV ps vs ∧ Q ps H') X.xe s
theorem yE:Jf X pos [] [] []:=fun pins s σ H Q I h=>pairTrees_nil_walk ⟨[],H,I,.nil,h⟩
theorem oB {k v:Expr} {ks:List (Option Expr)} {vs:List Expr} {tk tv:TE} {trs:List (TE × TE)} (hk:PE X k tk) (hv:PE X v tv) (hr:Jf X pos ks vs trs) :
  Jf X pos (some k :: ks) (v :: vs) ((tk,tv) :: trs):=fun pins s σ H Q I h =>
 pairTrees_cons_walk (bw (hk pins s σ H _ I h) fun u s1 ⟨x,H1,I1,rx,q1⟩=>bw (hv pins s1 σ H1 _ I1 q1) fun w2 s2 ⟨y,H2,I2,ry,q2⟩ =>
  bw (hr pins s2 σ H2 _ I2 q2) fun ws s3 ⟨ps,H3,I3,rel,q3⟩=>⟨(x,y) :: ps,H3,I3,.cons ⟨rx,ry⟩ rel,q3⟩)

def dm (kvs more:List (bj × V)):List (bj × V):=more.foldl (fun acc kv=>cR acc kv.1 kv.2) kvs
theorem KV.merge:∀ {more:List (bj × V)} {rs:List (bj × Value)} {kvs:List (bj × V)} {vs:List (bj × Value)},KV more rs → KV kvs vs → KV (dm kvs more) (merged vs rs):=by
 intro more rs kvs vs r
 unfold KV at r
 induction r generalizing kvs vs with
 | nil=>intro q; exact q
 | @cons p q ps qs h t ih =>
  intro r0
  have e:KV (cR kvs p.1 p.2) (stored vs q.1 q.2):=by
   have:=r0.put p.1 h.2
   rw [← h.1]; exact this
  exact ih e
theorem js:∀ (more kvs:List (bj × V)),(dm kvs more).length ≤ kvs.length + more.length
 | [],kvs=>by show kvs.length ≤ kvs.length + 0; omega
 | p :: r,kvs=>by
  have h1:=js r (cR kvs p.1 p.2)
  have h2:=iK kvs p.1 p.2
  show (dm (cR kvs p.1 p.2) r).length ≤ _
  rw [List.length_cons]; omega
theorem oC {P:Program} {w:World}:∀ {kvs:List (bj × V)} {ws:List (Value × Value)},VV (kvs.map fun kv=>(kV kv.1,kv.2)) ws → ∃ rs,Carries (aU P w) ws rs ∧ KV kvs rs
 | [],_,r=>by rw [List.map_nil] at r; cases r; exact ⟨[],True.intro,.nil⟩
 | p :: kvs,_,r=>by
  rw [List.map_cons] at r
  cases r with
  | @cons a b as bs h t =>
   obtain ⟨rs,c,q⟩:=oC (P:=P) (w:=w) t
   obtain ⟨b1,b2⟩:=b
   exact ⟨(p.1,b2) :: rs,⟨iL h.1,rfl,c⟩,.cons ⟨rfl,h.2⟩ q⟩
def Jg (trs:List (TE × TE)):TE:=fun σ H Q=>∀ p,H p = none → oA trs σ (upd H p (.dK [])) fun ps H2=>H2 p = some (.dK []) ∧ ∃ kvs:List (bj × V),ps = kvs.map (fun kv=>(kV kv.1,kv.2)) ∧ kvs.length ≤ 15 ∧ Q (.ref p) (upd H2 p (.dK (dm [] kvs)))
theorem yF {keys:List (Option Expr)} {values:List Expr} {trs:List (TE × TE)} (h:Jf X pos keys values trs) (hall:keys.all (·.isSome) = true) (hl:keys.length = values.length) (h0:keys ≠ [])
  (h15:keys.length ≤ 15):PE X (.Dict keys values pos) (Jg trs):=by
 intro pins s σ H Q I q
 have hn:=I.hok.fresh (Nat.le_refl s.heap.objs.size)
 have I1:=I.laid (a:=s.heap.objs.size) (o:=.dK []) (h':=s.heap.push { cls:=.type "dict",data:=.dict #[] }) (t':=s.toks) (fun _ _ q=>Heap.get?_push_of_some _ q) (Nat.le_refl _) (vw s.heap I.big)
 refine wpAny_Dict_walk (knd:=aU X.prog X.w) hall hl h0 h15 (bw (h pins _ σ _ _ I1 (q _ hn)) fun ws s2 ⟨ps,H2,I2,rel,e,kvs,ep,lk,q2⟩=>?_)
 subst ep
 obtain ⟨rs,c,rk⟩:=oC (P:=X.prog) (w:=X.w) rel
 obtain ⟨z,hd,vs0,r0,dd⟩:=vv I2.hok e
 cases r0
 refine ⟨rs,c,dd,fun h' dd' hs=>⟨.ref s.heap.objs.size,_,?_,rfl,q2⟩⟩
 have hz:(dm [] kvs).length ≤ sizeLine:=by
  have h1:=js kvs []
  rw [List.length_nil] at h1
  rw [sizeLine_eq]; omega
 have he:∃ q,h'.get? s.heap.objs.size = some q:=let ⟨q,_,_,hq,_⟩:=dd'; ⟨q,hq⟩
 exact kr I2 (by rw [e]; exact True.intro) hs he (xf hz hd (rk.merge .nil) dd')


structure M1 (X:Cx) (o:Expr) (m:Str) (apos:Pos) (e:Expr) (cpos:Pos):Prop where
 base:attributeBase o m X.env (eval o X.env) = eval o X.env
 few:((backTo cpos (starEach [e] X.env)).all (fun x=>!x.1) && (backToKw cpos (keywordEach [] X.env)).all (fun x=>x.1.isSome)
  && decide (([e]:List Expr).length + ([]:List Keyword).length + (if ([]:List Keyword).isEmpty then 0 else 1) < 30)) = true
 line:(apos.endLine == cpos.line) = true
 trees:backTo cpos (starEach [e] X.env) = [(false,eval e X.env)]
structure M2 (X:Cx) (o:Expr) (m:Str) (apos:Pos) (e f:Expr) (cpos:Pos):Prop where
 base:attributeBase o m X.env (eval o X.env) = eval o X.env
 few:((backTo cpos (starEach [e,f] X.env)).all (fun x=>!x.1) && (backToKw cpos (keywordEach [] X.env)).all (fun x=>x.1.isSome)
  && decide (([e,f]:List Expr).length + ([]:List Keyword).length + (if ([]:List Keyword).isEmpty then 0 else 1) < 30)) = true
 line:(apos.endLine == cpos.line) = true
 trees:backTo cpos (starEach [e,f] X.env) = [(false,eval e X.env),(false,eval f X.env)]

def JW (H:Hp) (a:Addr):Prop:=(∃ kvs,Rd H a (.dK kvs)) ∨ ∃ kvs,Rd H a (.dT kvs)
theorem xg {a:Addr} (I:aG X pins σ H s) (d:JW H a) :
  s.TypeIs (.ref a) "dict" ∧ (∀ b,Value.ref a = .ref b → ∃ ob,s.heap.get? b = some ob ∧ ob.dict = none) ∧ (a == sysModules) = false:=by
 rcases d with ⟨kvs,e⟩ | ⟨kvs,e⟩
 ·obtain ⟨_,hd,vs,_,dd⟩:=mC I.hok e
  refine ⟨dd.typeIs,fun b q=>?_,hd⟩
  cases q
  obtain ⟨ob,_,_,h1,h2,_⟩:=dd
  exact ⟨ob,h1,h2.2.1⟩
 ·obtain ⟨_,hd,xs,_,dd⟩:=mD I.hok e
  refine ⟨dd.typeIs,fun b q=>?_,hd⟩
  cases q
  obtain ⟨ob,_,_,h1,h2,_⟩:=dd
  exact ⟨ob,h1,h2.2.1⟩

section
variable {a:Addr} {y d:V} {u r:Value} {o:Option V}
theorem GZ {Q:Value → Shared → Prop} (hu:A.units + 1 < cLine) (I:aG X pins σ H s) (g:gY H a y o) (ry:aO y u) (h:∀ w' s',aG X pins σ H s' → aO (o.getD .non) w' → Q w' s') :
  wpAny (model X.prog X.w) A (call (.builtin "dict.get") [.ref a,u]) Q E s:=by
 rcases g with ⟨kvs,k,e,ey,l⟩ | ⟨kvs,k,b,e,ey,eb,l⟩
 ·subst ey
  obtain ⟨z,hd,vs,rel,dd⟩:=mC I.hok e
  refine call_meetsIn PySem.F.slot_dict_get dd.typeIs PySem.F.entry_dict_get (PySem.F.args_dict_get_2 _ _) (meets_dict_get (aU X.prog X.w) a (iL ry) hd) ⟨_,dd.mapOf,h _ _ (I.tok _) ?_⟩
  rw [l]
  exact (rel.val k).getD rfl
 ·subst ey
  cases (show u = Value.ref b from ry)
  obtain ⟨z,hd,xs,rel,dd⟩:=mD I.hok e
  refine call_meetsIn PySem.F.slot_dict_get dd.typeIs PySem.F.entry_dict_get (PySem.F.args_dict_get_2 _ _) (meetsH_dict_get (tupleKind (aU X.prog X.w)) a b hd) ⟨tupleKind_room_in1 hu,k,xs,dc I.hok eb,dd,h _ _ (I.tok _) ?_⟩
  rw [l]
  exact (rel.val k).getD rfl
theorem BK {Q:Value → Shared → Prop} (hu:A.units + 1 < cLine) (I:aG X pins σ H s) (g:gY H a y o) (ry:aO y u) (rd:aO d r) (h:∀ w' s',aG X pins σ H s' → aO (o.getD d) w' → Q w' s') :
  wpAny (model X.prog X.w) A (call (.builtin "dict.get") [.ref a,u,r]) Q E s:=by
 rcases g with ⟨kvs,k,e,ey,l⟩ | ⟨kvs,k,b,e,ey,eb,l⟩
 ·subst ey
  obtain ⟨z,hd,vs,rel,dd⟩:=mC I.hok e
  refine call_meetsIn PySem.F.slot_dict_get dd.typeIs PySem.F.entry_dict_get (PySem.F.args_dict_get_3 _ _ _) (meets_dict_get_default (aU X.prog X.w) a (iL ry) hd r) ⟨_,dd.mapOf,h _ _ (I.tok _) ?_⟩
  rw [l]
  exact (rel.val k).getD rd
 ·subst ey
  cases (show u = Value.ref b from ry)
  obtain ⟨z,hd,xs,rel,dd⟩:=mD I.hok e
  refine call_meetsIn PySem.F.slot_dict_get dd.typeIs PySem.F.entry_dict_get (PySem.F.args_dict_get_3 _ _ _) (meetsH_dict_get_default (tupleKind (aU X.prog X.w)) a b hd r) ⟨tupleKind_room_in1 hu,k,xs,dc I.hok eb,dd,h _ _ (I.tok _) ?_⟩
  rw [l]
  exact (rel.val k).getD rd
end
def G0 (td ty:TE):TE:=fun σ H Q=>td σ H fun x H1=>∃ a,x = .ref a ∧ JW H1 a ∧ ty σ H1 fun y H2=>∃ o,gY H2 a y o ∧ Q (o.getD .non) H2
def G1 (td ty tx:TE):TE:=fun σ H Q=>td σ H fun x H1=>∃ a,x = .ref a ∧ JW H1 a ∧ ty σ H1 fun y H2=>tx σ H2 fun z H3=>∃ o,gY H3 a y o ∧ Q (o.getD z) H3
section
variable {o e f:Expr} {apos cpos:Pos} {td ty tx:TE}
theorem BL (hu:X.A.units + 1 < cLine) (ho:PE X o td) (he:PE X e ty) (m:M1 X o "get" apos e cpos):PE X (.Call (.Attribute o "get" apos) [e] [] cpos) (G0 td ty):=by
 intro pins s σ H Q I h
 refine wpAny_Call_method m.base m.few m.line PySem.F.plainAttrs_dict PySem.F.slot_dict_get PySem.F.type_dict_get (bw (ho pins s σ H _ I h) fun u s1 ⟨x,H1,I1,rx,a,ex,d,q1⟩=>?_)
 subst ex
 obtain rfl:u = Value.ref a:=rx
 obtain ⟨t1,t2,_⟩:=xg I1 d
 refine ⟨t1,t2,?_⟩
 rw [m.trees]
 refine Calls.callWith_builtin rfl (Calls.evalArgs_plain (Calls.spliced_cons (bw (he pins s1 σ H1 _ I1 q1) fun iv s2 ⟨y,H2,I2,ry,ov,g,q2⟩=>Calls.spliced_nil ?_)))
 exact GZ hu I2 g ry fun w' s3 I3 rw'=>⟨_,H2,I3,rw',q2⟩
theorem BM (hu:X.A.units + 1 < cLine) (ho:PE X o td) (he:PE X e ty) (hf:PE X f tx) (m:M2 X o "get" apos e f cpos):PE X (.Call (.Attribute o "get" apos) [e,f] [] cpos) (G1 td ty tx):=by
 intro pins s σ H Q I h
 refine wpAny_Call_method m.base m.few m.line PySem.F.plainAttrs_dict PySem.F.slot_dict_get PySem.F.type_dict_get (bw (ho pins s σ H _ I h) fun u s1 ⟨x,H1,I1,rx,a,ex,d,q1⟩=>?_)
 subst ex
 obtain rfl:u = Value.ref a:=rx
 obtain ⟨t1,t2,_⟩:=xg I1 d
 refine ⟨t1,t2,?_⟩
 rw [m.trees]
 refine Calls.callWith_builtin rfl (Calls.evalArgs_plain (Calls.spliced_cons (bw (he pins s1 σ H1 _ I1 q1) fun iv s2 ⟨y,H2,I2,ry,q2⟩ =>
  Calls.spliced_cons (bw (hf pins s2 σ H2 _ I2 q2) fun fv s3 ⟨z,H3,I3,rz,ov,g,q3⟩=>Calls.spliced_nil ?_))))
 exact BK hu I3 g ry rz fun w' s4 I4 rw'=>⟨_,H3,I4,rw',q3⟩
end
section
variable {a:Addr} {kvs:List (bj × V)}
end
section
variable {a:Addr} {y:V} {u:Value}
end
end L2
namespace Att
open PySem PySem.W PySem.Calls PyProof.Rows
theorem m9 {P:Params} {h:Heap}:∀ (ns:List Int) (vs:List Value),WellAll P h vs (ns.map WData.int) → IntsAre vs ns:=by
 intro ns
 induction ns with
 | nil =>
  intro vs w
  rw [List.map_nil] at w
  cases w
  exact .nil
 | cons n ns ih =>
  intro vs w
  rw [List.map_cons] at w
  cases w with
  | cons a b =>
   cases a
   exact .cons _ _ (ih _ b)

theorem zU {l:OpenLaw} {n:Nat} (hn:l.most = some n) {P:Params} {h:Heap} {args:List WData} {vals:List Value}
  (hpre:l.row.toRowW.claim.pre args = true) (hwl:WellAll P h vals args) :
  ∃ a vs ns,vals = [Value.ref a] ∧ args = [WData.list (ns.map WData.int)] ∧ h.get? a = some { cls:=.type "list",data:=.seq vs.toArray } ∧ IntsAre vs ns ∧ ns.length ≤ n:=by
 have hsh:WShape.hasAll [] args [.list .int] = true:=(pre_splitW hpre).1
 have hc:l.pre.holds [] { args:=args } = true:=(pre_splitW hpre).2
 obtain ⟨d,r,rfl,h1,h2⟩:=hasAllW_cons hsh
 obtain rfl:=hasAllW_nil h2
 obtain ⟨xs,rfl,h3⟩:=hasW_list h1
 obtain ⟨ns,rfl⟩:=items_int h3
 have hlen:ns.length ≤ n:=by
  unfold OpenLaw.pre at hc
  have h4:(WTm.not (.lt (.lit (.int (n:Int))) (.len (.arg 0)))).holds [] { args:=[.list (ns.map .int)] } = true:=by
   have h4:=(holds_andW hc).1
   rw [hn] at h4
   exact h4
  have h5:=condW_of h4 (w_not (w_lt w_lit (w_len_list (w_arg rfl))))
  rw [List.length_map] at h5
  refine Nat.le_of_not_lt fun q=>?_
  have q':(n:Int) < ((ns.length:Nat):Int):=by omega
  first
   | (rw [decide_eq_true q'] at h5; exact absurd h5 (by decide))
   | (simp at h5; omega)
 cases hwl with
 | cons w1 w2 =>
  cases w2
  cases w1 with
  | list ho hall=>exact ⟨_,_,ns,rfl,rfl,ho,m9 ns _ hall,hlen⟩

theorem zV (l:OpenLaw) (args:List WData):l.row.toRowW.claim.post args (.bool true) args = true :=
 postW_of (r:=l.row.toRowW) (X:=(true == true))
  (show WShape.has [] (.bool true) .bool = true by first | rfl | decide | simp [WShape.has,WShape.arms,WShape.armsAll])
  (show (WTm.eq .res (.lit (.bool true))).value [] { args:=args,res:=some (.bool true),after:=args } = some (.bool (true == true)) from w_eq_bool (w_res rfl) w_lit) rfl

theorem attach_call {l:OpenLaw} {n:Nat} {q:Program} {loose:List Str} {XP:(Str → Option Value) → Heap → Prop} {YP:World → Heap → Prop} {d:DefRec}
  (hn:l.most = some n) (hdf:d.params.defaults = [])
  (call:∀ (w:World) (s₀ s₁:Shared) (mg mb:Str → Option Value) (fa:Addr) (o:Obj) (pm cd doc:Value) (a:Addr) (vs:List Value) (ns:List Int),
   Ground q loose [] XP w s₀ mg mb s₁.heap → YP w s₁.heap →
   s₁.heap.get? fa = some o → o.data = .func (docDef d.name d.params d.body d.scope pm cd doc) → s₁.heap.CodeRec cd d.name → mg d.name = some (.ref fa) →
   s₁.heap.get? a = some { cls:=.type "list",data:=.seq vs.toArray } → IntsAre vs ns → ns.length ≤ n → s₁.gens = #[] →
   codeAny (model l.prog w) callerA (.call (.ref fa) ⟨[.ref a],[]⟩) (fun r s'=>r = .ok (.ret (.bool true)) ∧ OldK s₁.heap s'.heap ∧ s'.os = s₁.os ∧ AllBare s'.gens) s₁) :
  WalkO q loose XP YP l.row.toRowW d [] (fun f vs=>PySem.call f vs):=by
 intro w s₀ s₁ mg mb G Y fa o pm cd doc dV kV ho hd hcd hD hmg hg args vals as hpre hlay hrd hwl hlo
 obtain rfl:dV = .none:=Dflts.none hD hdf
 obtain rfl:kV = .none:=Dflts.noKw hD
 obtain ⟨a,vs,ns,rfl,rfl,hobj,hints,hlen⟩:=zU hn hpre hwl
 refine enter_call (codeAny_mono (call w s₀ s₁ mg mb fa o pm cd doc a vs ns G Y ho (fd_plain hd) hcd hmg hobj hints hlen hg) fun r s' hq=>?_)
 obtain ⟨rfl,h2,h3,h4⟩:=hq
 exact ⟨.inl ⟨.bool true,.bool true,[],rfl,fun _=>rfl,.bool true,zV l _,fun _=>⟨List.Pairwise.nil,fun _ hm=>(nomatch hm)⟩⟩,h2,h3,h4⟩

section
variable {K:Frag}
end
end Att
namespace L2
open PySem PySem.Spec PyProof.Rows
theorem rX:∀ {vs:List Value} {ns:List Int},IntsAre vs ns → aN (ns.map V.int) vs
 | _,_,.nil=>.nil
 | _,_,.cons n t h=>.cons ⟨t,rfl⟩ (rX h)

end L2
namespace L2
open PySem PySem.Spec PyProof.Rows
def aA (s:Stmt) (j:Nat):Stmt:=match s with
 | .ClassDef _ _ _ body _ _ _ _ _ _ _=>body.getD j (.Pass ⟨0,0,0,0⟩)
 | _=>.Pass ⟨0,0,0,0⟩
def bV (s:Stmt):Arguments:=match s with
 | .FunctionDef _ a _ _ _ _ _ _ _ _=>a
 | _=>{ posonlyargs:=[],args:=[],vararg:=none,kwonlyargs:=[],kw_defaults:=[],kwarg:=none,defaults:=[] }
def bd (s:Stmt):List Stmt:=match s with
 | .FunctionDef _ _ b _ _ _ _ _ _ _=>b
 | _=>[]
def ag (s:Stmt):Scope:=match s with
 | .FunctionDef _ _ _ _ _ _ sc _ _ _=>sc
 | _=>{ kind:=.function,names:=[],isGenerator:=false,isCoroutine:=false }

abbrev fT:tz:=fun _ _ _ _ _ _=>False
abbrev E0:XK:=fun _ _ _=>False
theorem FY:cW fT X E0:=fun _ _ _ _ _ _ _ h=>h.elim

structure Fun (K:PySem.W.Frag) (x qual:Str) (st:Stmt) (f:Addr) (fd:FuncData):Prop where
 ex:∃ (oc:Value) (od:Option Addr) (kV doc pm:Value) (an:Option Addr) (cdv ct:Value) (osl:Array (Option Value)),
  fd = PySem.W.fnOf x qual (bV st) (bd st) (ag st) .none kV doc pm an cdv ct ∧ K.lookup f = some ⟨oc,od,.func fd,osl⟩ ∧ PySem.W.codeIn K cdv qual = true
 kp:PySem.W.keepIn K (.ref f) = true
section
theorem Fun.ok {x qual:Str} {f:Addr} {N ps:List Str} {k:Nat} {sp:Sp} (F:Fun K x qual st f fd) (S:al N ps (ag st)) (len:∀ vs H Q E,sp vs H Q E → vs.length = ps.length)
  (hbody:∀ (cdv:Value) (A:Around) (outer:List Env) (s:Shared) (H:Hp) (vs:List V) (Q:VK) (E:XK),bQ k (A.deeper (envOfC qual (ag st) s.heap.objs.size f cdv)) → sp vs H Q E →
   ∃ t,iz (m8 fT P w K mg base N qual (ag st) f cdv A outer s H E).nox (bd st) t ∧ t { nx:=fun _ H'=>Q .non H',rt:=Q } (ii N vs) H):db P w K mg base fT (k + 1) f fd ps sp:=by
 obtain ⟨oc,od,kV,doc,pm,an,cdv,ct,osl,rfl,lk,hcd⟩:=F.ex
 refine FT lk hcd S len fun A outer s H vs Q E hr hsp=>?_
 obtain ⟨t,h,q⟩:=hbody cdv A outer s H vs Q E hr hsp
 exact ⟨t,h.nox,q⟩
theorem Fun.binds {x qual:Str} {f:Addr} {ps:List Str} (F:Fun K x qual st f fd)
  (h:∀ (kV doc pm:Value) (an:Option Addr) (cdv ct:Value) (us:List Value),us.length = ps.length → bindArgs (PySem.W.fnOf x qual (bV st) (bd st) (ag st) .none kV doc pm an cdv ct) ⟨us,[]⟩ = pure (ps.zip us)):dH K fd ps []:=by
 obtain ⟨oc,od,kV,doc,pm,an,cdv,ct,osl,rfl,lk,hcd⟩:=F.ex
 exact .all (h kV doc pm an cdv ct)
theorem oE {x qual:Str} {f:Addr} {oc:Value} {od an:Option Addr} {kV doc pm cdv ct:Value} (l:K.lookup f = some ⟨oc,od,.func (PySem.W.fnOf x qual (bV st) (bd st) (ag st) .none kV doc pm an cdv ct),osl⟩)
  (c:PySem.W.codeIn K cdv qual = true) (k:PySem.W.keepIn K (.ref f) = true):Fun K x qual st f (PySem.W.fnOf x qual (bV st) (bd st) (ag st) .none kV doc pm an cdv ct):=⟨⟨oc,od,kV,doc,pm,an,cdv,ct,osl,rfl,l,c⟩,k⟩
end
theorem da {k:Nat} (hr:bQ k A):A.units + 1 < cLine:=Nat.lt_of_le_of_lt (Nat.add_le_add_left (by decide:1 ≤ 64) _) hr.units
theorem ce {n:Nat} (h:n ≤ 1000):n < sizeLine:=Nat.lt_of_le_of_lt h (by decide)

section
theorem pv (i:Nat) {x:Str} (hN:X.N[i]? = some x:=by with_unfolding_all rfl) (hv:IE X.env.scope x:=by with_unfolding_all (first | exact Or.inl rfl | exact Or.inr (Or.inl rfl) | exact Or.inr (Or.inr rfl))) (hd:(x == ("__debug__":Str)) = false:=by decide)
  (hcd:(x == ("__classdict__":Str)) = false:=by decide):PE X (.Name x pos) (Bb i):=Gs hN hv hd hcd
end
theorem qw {A B:Prop} (h:B):if false = true then A else B:=by
 rw [if_neg Bool.false_ne_true]
 exact h
theorem qx {A B:Prop} (h:A):if true = true then A else B:=by
 rw [if_pos rfl]
 exact h
def G2 (H H':Hp):Prop:=∀ b o,H b = some o → H' b = some o
section
variable {κ:Type} [DecidableEq κ]
theorem yG:∀ {l:List κ} {k:κ},l.Nodup → ¬ k ∈ l → (l ++ [k]).Nodup
 | [],k,_,_=>by simp
 | a :: r,k,h,hk=>by
  obtain ⟨h1,h2⟩:=List.nodup_cons.mp h
  show (a :: (r ++ [k])).Nodup
  refine List.nodup_cons.mpr ⟨fun m=>?_,yG h2 fun m=>hk (List.mem_cons.mpr (Or.inr m))⟩
  rcases List.mem_append.mp m with q | q
  ·exact h1 q
  ·exact hk (List.mem_cons.mpr (Or.inl (List.mem_singleton.mp q).symm))
end
end L2
set_option maxHeartbeats 4000000
namespace OH
open PySem PySem.W PySem.Calls PyProof.Rows
noncomputable abbrev p0:Pos:=⟨0,0,0,0⟩
noncomputable abbrev Iu:Option Value:=some (.ref 6)
noncomputable def o4:List Obj:=[{ cls:=.type "tuple",data:=.seq #[] },{ cls:=.none,data:=.fields #[] },
 { cls:=.type "code",data:=.fields #[.str "<module>" 182,.str "<module>" 183,.str "/claim/cut.py" 184,.int 1 0,.int 0 0,.int 0 0,.int 0 0,.int 0 0,.ref 11,.bool false,.int 181 0,.ref 12,.none,.none,.none,.none,.int 185 0,.int 1 0,.str "/claim/cut.py" 186] },
 { cls:=.type "frame",slots:=#[some (.ref 13),some (.ref 3),some (.ref 3),none,some (.str "__main__" 164),none,some (.ref 0)] }]
noncomputable def bt:List Obj → Nat → BT → BT
 | [],_,t=>t
 | o :: l,i,t=>bt l (i + 1) (t.ins i o)
noncomputable def Tb (P:Params):BT:=bt ((boot_heap P).objs.toList ++ o4) 0 .nil
noncomputable abbrev St (w:World) (os:OsState):SharedT:=⟨Tb w.params,15,{},#[],boot_drawn,187,os⟩
noncomputable abbrev S0 (w:World) (os:OsState):Shared:=⟨boot_heap w.params,Array.mk [],boot_drawn,boot_toks,os⟩
noncomputable abbrev env (p:Program):Env:={ scope:=p.main.scope,locals:=mainNs,globals:=mainNs,cells:=[],code:=.ref 13,frame:=some 14 }
noncomputable abbrev cd (p:Program):Code:=.body (behindTheImports p) (env p)
noncomputable abbrev B:List Frame:=[topFrame p0]
section
variable {p q:Program} {loose:List Str} {Xt:Shared → Bool} {N M:Nat} {K:Params → Frag} {as ts:List Addr} {ek:∀ P,as = (K P).map (·.1)}
theorem Jh (P:Params):((boot_heap P).isNs mainGlobals && (Array.mk []:Array GenState).size == 0,(boot_heap P).objs.size,(boot_heap P).nsMap mainGlobals "__annotations__") = (true,11,Iu):=by kernel_rfl
theorem G3 (w:World) (pos:Pos) (s:Shared):topRun treeTable p w 11 Iu 2 s ⟨doneF .next,cd p,pos,B⟩ = some s:=by cases s; rfl
noncomputable abbrev gt (t:BT) (a:Addr):Option Obj:=(t.get a).bind alive
theorem G4 {t:BT} {n:Nat} {life:Life} {a:Addr} {o:Obj} (h:Nat.blt a n = true) (g:gt t a = some o):(absHeap t n life).get? a = some o:=by
 obtain ⟨o',g1,g2⟩:=Option.bind_eq_some_iff.mp g
 rw [abs_get (Nat.le_of_ble_eq_true h) g1,g2]
theorem tH {t:BT} {n:Nat} {life:Life}:∀ {as:List Addr} {os:List (Option Obj)},as.all (fun a=>Nat.blt a n) = true → os.all (·.isSome) = true → as.map (gt t) = os → as.map (absHeap t n life).get? = os
 | [],_,_,_,e=>e
 | a :: as,os,h,k,e=>by
  subst e
  rw [List.all_cons,Bool.and_eq_true] at h
  rw [List.map_cons,List.all_cons,Bool.and_eq_true] at k
  rw [List.map_cons,List.map_cons,tH h.2 k.2 rfl]
  obtain ⟨o,ho⟩:=Option.isSome_iff_exists.mp k.1
  rw [ho,G4 h.1 ho]
theorem Ex (e:opening p = plainProg p.main.scope.names) (hN:Nat.ble 600 N = true) (f:∀ s,fenceModules? p s = some s)
  (pre:∀ w os,topGo treeTable p w 11 Iu 12 (S0 w os) (topStub p) = some ((St w os).abs,⟨denote treeTable (cd p),cd p,p0,B⟩))
  (blk:∀ w os,segRun treeTable p w 11 Iu 1 1 (St w os).abs (blockOf (behindTheImports p) (env p) (cd p) p0 B) = some (.next,(St w os).abs,cd p,p0))
  (main:∀ w,(fun os=>(segRunT treeTable p w 11 Iu 1 M (St w os) (piecesOf (behindTheImports p) (env p) (cd p) p0 B)).map fun r=>(r.1,r.2.2.1,
    (staticsOk (importedModules p.main.body) (boot_heap w.params) r.2.1.abs.heap && namesBound p r.2.1.abs.heap && gensDone r.2.1.abs && laidKept (boot_heap w.params) r.2.1.abs.heap),
    openSeen q loose (importedModules p.main.body) Xt true r.2.1.abs,as.all (fun a=>Nat.blt a r.2.1.n),ts.all (fun a=>Nat.blt a r.2.1.n),as.map (gt r.2.1.tree),ts.map (gt r.2.1.tree))) =
   fun _=>some (.next,cd p,true,openGood q loose,true,true,(K w.params).map (fun p=>some p.2),ts.map fun _=>some (tabObj #[])))
  (le:Nat.ble (12 + (1 + (M + 2))) N = true):LeftO p q loose Xt (kmHook K as ek ts).obs (kmHook K as ek ts).val N:=fun w=>by
 obtain ⟨⟨h,gs,d,k,os⟩,e1,e'⟩:=Option.map_eq_some_iff.mp (boot_open e hN f w)
 obtain ⟨rfl,rfl,rfl,rfl⟩:h = boot_heap w.params ∧ gs = Array.mk [] ∧ d = boot_drawn ∧ k = boot_toks:=by simpa using e'
 obtain ⟨⟨fl,sT,c',pos'⟩,m1,m2⟩:=Option.map_eq_some_iff.mp (congrFun (main w) os)
 obtain ⟨rfl,m2⟩:=Prod.mk.inj m2
 obtain ⟨rfl,m2⟩:=Prod.mk.inj m2
 obtain ⟨l1,m2⟩:=Prod.mk.inj m2
 obtain ⟨l2,m2⟩:=Prod.mk.inj m2
 obtain ⟨a1,m2⟩:=Prod.mk.inj m2
 obtain ⟨a2,m2⟩:=Prod.mk.inj m2
 obtain ⟨a3,a4⟩:=Prod.mk.inj m2
 have k1:=piece_app (rest:=[]) (segRun_of m1) (piece_nil (G3 w pos' sT.abs))
 rw [List.append_nil] at k1
 have r0:=go_top (pre w os) (piece_block (blk w os) k1)
 have r:=topRun_mono (N - (12 + (1 + (M + 2)))) _ _ _ _ r0
 rw [show 12 + (1 + (M + 2)) + (N - (12 + (1 + (M + 2)))) = N by have:=Nat.le_of_ble_eq_true le; omega] at r
 obtain ⟨z1,z2⟩:=Prod.mk.inj (Jh w.params)
 obtain ⟨z2,z3⟩:=Prod.mk.inj z2
 have t:topFrom treeTable p w N (S0 w os) = some sT.abs:=by
  unfold topFrom
  dsimp only
  rw [z1,z2,z3,r]
  show (match staticsOk (importedModules p.main.body) (boot_heap w.params) sT.abs.heap && namesBound p sT.abs.heap && gensDone sT.abs && laidKept (boot_heap w.params) sT.abs.heap with | true=>some sT.abs | false=>none) = _
  rw [l1]
 have y1:as.map sT.abs.heap.get? = (K w.params).map fun p=>some p.2:=tH a1 (by rw [List.all_map]; exact List.all_eq_true.mpr fun _ _=>rfl) a3
 have y2:ts.map sT.abs.heap.get? = ts.map fun _=>some (tabObj #[]):=tH a2 (by rw [List.all_map]; exact List.all_eq_true.mpr fun _ _=>rfl) a4
 unfold openEnds
 rw [e1]
 show (topFrom treeTable p w N (S0 w os)).map _ = _
 rw [t]
 show some (openSeen q loose (importedModules p.main.body) Xt true sT.abs,as.map sT.abs.heap.get?,ts.map sT.abs.heap.get?) = some (openGood q loose,(K w.params).map (fun p=>some p.2),ts.map fun _=>some (tabObj #[]))
 rw [l2,y1,y2]
end
end OH
variable {σ:L2.St}
namespace RB
open PySem
def aF (i:Nat):Stmt:=PySem.Challenge.pw_lockstretch_k42_fair_by_hand.main.body.getD i (.Pass ⟨0,0,0,0⟩)
end RB
namespace OH
open PySem PySem.W PySem.Calls PyProof.Rows L2
noncomputable abbrev kE (P:Params) (x:Str) (t:Nat) (v:Value):DictEntry:=⟨PyData.keyHash P x,.str x t,v⟩
noncomputable abbrev kD (es:List DictEntry) (n:Nat):Obj:={ cls:=.type "dict",data:=.dict ⟨es⟩ n }
noncomputable abbrev kL (x:Str) (a n t t':Nat):Obj:={ cls:=.type "type",data:=.cls { name:=x,bases:=[.type "object"],mro:=[.ref a,.type "object"],ns:=n,qualname:=x },slots:=#[none,none,some (.str x t),some (.str x t'),some (.builtin "object.__new__"),some (.bool true)] }
noncomputable abbrev kC (x y:Str) (t l ac po ko fl a t':Nat):Obj:={ cls:=.type "code",data:=.fields #[.str x t,.str y (t + 1),.str "/claim/cut.py" (t + 2),.int l 0,.int ac 0,.int po 0,.int ko 0,.int fl 0,.ref a,.bool true,.int 181 0,.ref (a + 1),.none,.ref (a + 2),.ref (a + 3),.ref (a + 4),.int t' 0,.int l 0,.str "/claim/cut.py" (t' + 1)] }
noncomputable abbrev kQ (x y:Str) (t l ac po ko fl a t':Nat):Obj:={ cls:=.type "code",data:=.fields #[.str x t,.str y (t + 1),.str "/claim/cut.py" (t + 2),.int l 0,.int ac 0,.int po 0,.int ko 0,.int fl 0,.ref a,.bool true,.int 181 0,.ref (a + 1),.none,.none,.none,.ref (a + 2),.int t' 0,.int l 0,.str "/claim/cut.py" (t' + 1)] }
noncomputable abbrev kF (x y:Str) (st:Stmt) (kV:Value) (m:Str) (t c:Nat):Obj:={ cls:=.type "function",data:=.func (fnOf x y (bV st) (bd st) (ag st) .none kV .none (.str m t) none (.ref c) .none) }
open RB
noncomputable abbrev pw:=PySem.Challenge.pw_lockstretch_k42_fair_by_hand
noncomputable abbrev qv:Program:=view pw [105]
noncomputable abbrev ls:List Str:=(pw.main.scope.names.map (·.1)).dropLast
noncomputable def KK:Params → Frag:=fun P =>
 (nat_lit 3,kD (kE P "__name__" 165 (.str "law_lockstretch_k42_fair_by_hand" 1569) :: kE P "__doc__" 166 .none :: kE P "__package__" 167 .none :: kE P "__loader__" 168 (.builtin "__main__.__loader__#opaque") :: kE P "__spec__" 169 .none :: kE P "__annotations__" 170 (.ref 6) :: kE P "__builtins__" 171 (.ref 4) :: kE P "__file__" 173 (.str "/claim/cut.py" 172) :: kE P "__cached__" 174 .none :: kE P "_wall" 193 (.ref 21) :: kE P "LockError" 213 (.ref 31) :: kE P "NoTask" 229 (.ref 44) :: kE P "Asleep" 245 (.ref 56) :: kE P "Awake" 261 (.ref 68) :: kE P "NoHandle" 277 (.ref 80) :: kE P "NoMark" 293 (.ref 92) :: kE P "NoFile" 309 (.ref 104) :: kE P "BadMode" 325 (.ref 116) :: kE P "BadKind" 341 (.ref 128) :: kE P "BadStretch" 357 (.ref 140) :: kE P "Held" 382 (.ref 159) :: kE P "Stuck" 398 (.ref 171) :: kE P "NoAsk" 414 (.ref 183) :: kE P "NoBack" 430 (.ref 195) :: kE P "is_whole" 439 (.ref 204) :: kE P "is_stretch" 448 (.ref 211) :: kE P "lot_of" 458 (.ref 218) :: kE P "joined" 466 (.ref 225) :: kE P "without" 474 (.ref 232) :: kE P "both" 488 (.ref 239) :: kE P "meets" 497 (.ref 246) :: kE P "gaps_of" 508 (.ref 253) :: kE P "reaches" 516 (.ref 260) :: kE P "earlier_end" 524 (.ref 267) :: kE P "later_end" 532 (.ref 274) :: kE P "KINDS" 537 (.ref 275) :: kE P "HOLDERS" 540 (.ref 276) :: kE P "MODES" 544 (.ref 277) :: kE P "WORDS" 547 (.ref 278) :: kE P "is_key" 555 (.ref 285) :: kE P "check_task" 563 (.ref 292) :: kE P "check_awake" 571 (.ref 299) :: kE P "check_file" 579 (.ref 306) :: kE P "check_mode" 586 (.ref 313) :: kE P "check_kind" 593 (.ref 320) :: kE P "check_by" 600 (.ref 327) :: kE P "check_word" 607 (.ref 334) :: kE P "check_stretch" 614 (.ref 341) :: kE P "mark_at" 625 (.ref 348) :: kE P "mark_of" 635 (.ref 355) :: kE P "awake_mark" 644 (.ref 362) :: kE P "opened_mark" 652 (.ref 369) :: kE P "ask_entry" 660 (.ref 376) :: kE P "lock_order" 674 (.ref 383) :: kE P "lock_rows" 680 (.ref 388) :: kE P "told_locks" 688 (.ref 395) :: kE P "told_whole" 696 (.ref 402) :: kE P "told_asks" 702 (.ref 407) :: kE P "ask_of" 715 (.ref 414) :: kE P "clash" 723 (.ref 421) :: kE P "blocking_stretches" 729 (.ref 426) :: kE P "blocking_wholes" 735 (.ref 431) :: kE P "blocking_locks" 743 (.ref 438) :: kE P "asks_are_against" 751 (.ref 445) :: kE P "blocking_asks" 757 (.ref 450) :: kE P "is_blocked" 765 (.ref 457) :: kE P "first_blocker" 775 (.ref 464) :: kE P "keep_lots" 786 (.ref 471) :: kE P "free_cells" 798 (.ref 478) :: kE P "take" 815 (.ref 485) :: kE P "fall_asleep" 826 (.ref 492) :: kE P "wake" 836 (.ref 499) :: kE P "tasks_behind" 849 (.ref 506) :: kE P "needs_of" 855 (.ref 511) :: kE P "can_go" 861 (.ref 516) :: kE P "stuck_asks" 867 (.ref 521) :: kE P "give_up_stuck" 875 (.ref 528) :: kE P "first_unblocked" 883 (.ref 535) :: kE P "grant" 891 (.ref 542) :: kE P "settle" 898 (.ref 549) :: kE P "WRONG_MODES" 907 (.ref 550) :: kE P "new_handle" 918 (.ref 557) :: kE P "add_user" 930 (.ref 564) :: kE P "lead" 941 (.ref 571) :: kE P "lose_user" 947 (.ref 576) :: kE P "shut" 953 (.ref 581) :: kE P "end_task" 964 (.ref 588) :: kE P "take_or_wait" 974 (.ref 595) :: kE P "do_begin" 983 (.ref 602) :: kE P "do_attach" 996 (.ref 609) :: kE P "do_dup" 1008 (.ref 616) :: kE P "do_close" 1018 (.ref 623) :: kE P "do_fork" 1031 (.ref 630) :: kE P "do_end" 1040 (.ref 637) :: kE P "do_lock" 1056 (.ref 644) :: kE P "do_unlock" 1070 (.ref 651) :: kE P "do_cancel" 1079 (.ref 658) :: kE P "do_lock_whole" 1092 (.ref 665) :: kE P "do_unlock_whole" 1103 (.ref 672) :: kE P "DEEDS" 1126 (.ref 673) :: kE P "do_deed" 1137 (.ref 680) :: kE P "Tables" 1215 (.ref 723) :: kE P "Desk" 1568 (.ref 985) :: kE P "_law_draw" 1582 (.ref 996) :: kE P "_law_begun" 1588 (.ref 1003) :: kE P "law" 1594 (.ref 1008) :: []) 106) ::
 (nat_lit 203,kC "is_whole" "is_whole" 433 36 1 0 0 3 198 437) ::
 (nat_lit 204,kF "is_whole" "is_whole" (aF 17) .none "lockstretch.lots" 431 203) ::
 (nat_lit 210,kC "is_stretch" "is_stretch" 440 38 1 0 0 3 205 446) ::
 (nat_lit 211,kF "is_stretch" "is_stretch" (aF 18) .none "lockstretch.lots" 431 210) ::
 (nat_lit 217,kC "lot_of" "lot_of" 449 45 1 0 0 3 212 456) ::
 (nat_lit 218,kF "lot_of" "lot_of" (aF 19) .none "lockstretch.lots" 431 217) ::
 (nat_lit 224,kC "joined" "joined" 459 53 2 0 0 3 219 464) ::
 (nat_lit 225,kF "joined" "joined" (aF 20) .none "lockstretch.lots" 431 224) ::
 (nat_lit 231,kC "without" "without" 467 55 2 0 0 3 226 472) ::
 (nat_lit 232,kF "without" "without" (aF 21) .none "lockstretch.lots" 431 231) ::
 (nat_lit 238,kC "both" "both" 475 57 2 0 0 3 233 486) ::
 (nat_lit 239,kF "both" "both" (aF 22) .none "lockstretch.lots" 431 238) ::
 (nat_lit 245,kC "meets" "meets" 489 71 2 0 0 3 240 495) ::
 (nat_lit 246,kF "meets" "meets" (aF 23) .none "lockstretch.lots" 431 245) ::
 (nat_lit 252,kC "gaps_of" "gaps_of" 498 74 1 0 0 3 247 506) ::
 (nat_lit 253,kF "gaps_of" "gaps_of" (aF 24) .none "lockstretch.lots" 431 252) ::
 (nat_lit 259,kC "reaches" "reaches" 509 85 2 0 0 3 254 514) ::
 (nat_lit 260,kF "reaches" "reaches" (aF 25) .none "lockstretch.lots" 431 259) ::
 (nat_lit 266,kC "earlier_end" "earlier_end" 517 87 2 0 0 3 261 522) ::
 (nat_lit 267,kF "earlier_end" "earlier_end" (aF 26) .none "lockstretch.lots" 431 266) ::
 (nat_lit 273,kC "later_end" "later_end" 525 93 2 0 0 3 268 530) ::
 (nat_lit 274,kF "later_end" "later_end" (aF 27) .none "lockstretch.lots" 431 273) ::
 (nat_lit 275,{ cls:=.type "tuple",data:=.seq #[.str "shared" 535,.str "alone" 536] }) ::
 (nat_lit 276,{ cls:=.type "tuple",data:=.seq #[.str "task" 538,.str "mark" 539] }) ::
 (nat_lit 277,{ cls:=.type "tuple",data:=.seq #[.str "read" 541,.str "write" 542,.str "both" 543] }) ::
 (nat_lit 284,kC "is_key" "is_key" 548 102 2 0 0 3 279 553) ::
 (nat_lit 285,kF "is_key" "is_key" (aF 33) .none "lockstretch.checks" 533 284) ::
 (nat_lit 291,kC "check_task" "check_task" 556 104 2 0 0 3 286 561) ::
 (nat_lit 292,kF "check_task" "check_task" (aF 34) .none "lockstretch.checks" 533 291) ::
 (nat_lit 298,kC "check_awake" "check_awake" 564 107 2 0 0 3 293 569) ::
 (nat_lit 299,kF "check_awake" "check_awake" (aF 35) .none "lockstretch.checks" 533 298) ::
 (nat_lit 305,kC "check_file" "check_file" 572 111 2 0 0 3 300 577) ::
 (nat_lit 306,kF "check_file" "check_file" (aF 36) .none "lockstretch.checks" 533 305) ::
 (nat_lit 312,kC "check_mode" "check_mode" 580 114 1 0 0 3 307 584) ::
 (nat_lit 313,kF "check_mode" "check_mode" (aF 37) .none "lockstretch.checks" 533 312) ::
 (nat_lit 319,kC "check_kind" "check_kind" 587 117 1 0 0 3 314 591) ::
 (nat_lit 320,kF "check_kind" "check_kind" (aF 38) .none "lockstretch.checks" 533 319) ::
 (nat_lit 326,kC "check_by" "check_by" 594 120 1 0 0 3 321 598) ::
 (nat_lit 327,kF "check_by" "check_by" (aF 39) .none "lockstretch.checks" 533 326) ::
 (nat_lit 340,kC "check_stretch" "check_stretch" 608 126 1 0 0 3 335 612) ::
 (nat_lit 341,kF "check_stretch" "check_stretch" (aF 41) .none "lockstretch.checks" 533 340) ::
 (nat_lit 347,kC "mark_at" "mark_at" 615 129 3 0 0 3 342 623) ::
 (nat_lit 348,kF "mark_at" "mark_at" (aF 42) .none "lockstretch.checks" 533 347) ::
 (nat_lit 354,kC "mark_of" "mark_of" 626 135 3 0 0 3 349 633) ::
 (nat_lit 355,kF "mark_of" "mark_of" (aF 43) .none "lockstretch.checks" 533 354) ::
 (nat_lit 361,kC "awake_mark" "awake_mark" 636 141 3 0 0 3 356 642) ::
 (nat_lit 362,kF "awake_mark" "awake_mark" (aF 44) .none "lockstretch.checks" 533 361) ::
 (nat_lit 375,kC "ask_entry" "ask_entry" 653 148 2 0 0 3 370 658) ::
 (nat_lit 376,kF "ask_entry" "ask_entry" (aF 46) .none "lockstretch.checks" 533 375) ::
 (nat_lit 382,kC "lock_order" "lock_order" 663 153 1 0 0 3 377 672) ::
 (nat_lit 383,kF "lock_order" "lock_order" (aF 48) .none "lockstretch.claims" 661 382) ::
 (nat_lit 387,kQ "lock_rows" "lock_rows" 675 156 2 0 0 3 384 678) ::
 (nat_lit 388,kF "lock_rows" "lock_rows" (aF 49) .none "lockstretch.claims" 661 387) ::
 (nat_lit 394,kC "told_locks" "told_locks" 681 162 2 0 0 3 389 686) ::
 (nat_lit 395,kF "told_locks" "told_locks" (aF 50) .none "lockstretch.claims" 661 394) ::
 (nat_lit 406,kQ "told_asks" "told_asks" 697 166 1 0 0 3 403 700) ::
 (nat_lit 407,kF "told_asks" "told_asks" (aF 52) .none "lockstretch.claims" 661 406) ::
 (nat_lit 413,kC "ask_of" "ask_of" 703 168 6 0 0 3 408 713) ::
 (nat_lit 414,kF "ask_of" "ask_of" (aF 53) .none "lockstretch.claims" 661 413) ::
 (nat_lit 420,kC "clash" "clash" 716 171 2 0 0 3 415 721) ::
 (nat_lit 421,kF "clash" "clash" (aF 54) .none "lockstretch.claims" 661 420) ::
 (nat_lit 425,kQ "blocking_stretches" "blocking_stretches" 724 173 2 0 0 3 422 727) ::
 (nat_lit 426,kF "blocking_stretches" "blocking_stretches" (aF 55) .none "lockstretch.claims" 661 425) ::
 (nat_lit 430,kQ "blocking_wholes" "blocking_wholes" 730 182 2 0 0 3 427 733) ::
 (nat_lit 431,kF "blocking_wholes" "blocking_wholes" (aF 56) .none "lockstretch.claims" 661 430) ::
 (nat_lit 437,kC "blocking_locks" "blocking_locks" 736 185 2 0 0 3 432 741) ::
 (nat_lit 438,kF "blocking_locks" "blocking_locks" (aF 57) .none "lockstretch.claims" 661 437) ::
 (nat_lit 444,kC "asks_are_against" "asks_are_against" 744 189 2 0 0 3 439 749) ::
 (nat_lit 445,kF "asks_are_against" "asks_are_against" (aF 58) .none "lockstretch.claims" 661 444) ::
 (nat_lit 449,kQ "blocking_asks" "blocking_asks" 752 195 2 0 0 3 446 755) ::
 (nat_lit 450,kF "blocking_asks" "blocking_asks" (aF 59) .none "lockstretch.claims" 661 449) ::
 (nat_lit 456,kC "is_blocked" "is_blocked" 758 200 2 0 0 3 451 763) ::
 (nat_lit 457,kF "is_blocked" "is_blocked" (aF 60) .none "lockstretch.claims" 661 456) ::
 (nat_lit 463,kC "first_blocker" "first_blocker" 766 202 2 0 0 3 458 773) ::
 (nat_lit 464,kF "first_blocker" "first_blocker" (aF 61) .none "lockstretch.claims" 661 463) ::
 (nat_lit 470,kC "keep_lots" "keep_lots" 776 208 5 0 0 3 465 784) ::
 (nat_lit 471,kF "keep_lots" "keep_lots" (aF 62) .none "lockstretch.claims" 661 470) ::
 (nat_lit 477,kC "free_cells" "free_cells" 787 213 4 0 0 3 472 796) ::
 (nat_lit 478,kF "free_cells" "free_cells" (aF 63) .none "lockstretch.claims" 661 477) ::
 (nat_lit 484,kC "take" "take" 799 216 2 0 0 3 479 813) ::
 (nat_lit 485,kF "take" "take" (aF 64) .none "lockstretch.claims" 661 484) ::
 (nat_lit 491,kC "fall_asleep" "fall_asleep" 818 229 2 0 0 3 486 824) ::
 (nat_lit 492,kF "fall_asleep" "fall_asleep" (aF 66) .none "lockstretch.waits" 816 491) ::
 (nat_lit 498,kC "wake" "wake" 827 237 3 0 0 3 493 834) ::
 (nat_lit 499,kF "wake" "wake" (aF 67) .none "lockstretch.waits" 816 498) ::
 (nat_lit 505,kC "tasks_behind" "tasks_behind" 837 242 2 0 0 3 500 847) ::
 (nat_lit 506,kF "tasks_behind" "tasks_behind" (aF 68) .none "lockstretch.waits" 816 505) ::
 (nat_lit 510,kQ "needs_of" "needs_of" 850 247 2 0 0 3 507 853) ::
 (nat_lit 511,kF "needs_of" "needs_of" (aF 69) .none "lockstretch.waits" 816 510) ::
 (nat_lit 515,kQ "can_go" "can_go" 856 251 2 0 0 3 512 859) ::
 (nat_lit 516,kF "can_go" "can_go" (aF 70) .none "lockstretch.waits" 816 515) ::
 (nat_lit 520,kQ "stuck_asks" "stuck_asks" 862 253 1 0 0 3 517 865) ::
 (nat_lit 521,kF "stuck_asks" "stuck_asks" (aF 71) .none "lockstretch.waits" 816 520) ::
 (nat_lit 527,kC "give_up_stuck" "give_up_stuck" 868 265 1 0 0 3 522 873) ::
 (nat_lit 528,kF "give_up_stuck" "give_up_stuck" (aF 72) .none "lockstretch.waits" 816 527) ::
 (nat_lit 534,kC "first_unblocked" "first_unblocked" 876 270 1 0 0 3 529 881) ::
 (nat_lit 535,kF "first_unblocked" "first_unblocked" (aF 73) .none "lockstretch.waits" 816 534) ::
 (nat_lit 541,kC "grant" "grant" 884 275 1 0 0 3 536 889) ::
 (nat_lit 542,kF "grant" "grant" (aF 74) .none "lockstretch.waits" 816 541) ::
 (nat_lit 548,kC "settle" "settle" 892 281 1 0 0 3 543 896) ::
 (nat_lit 549,kF "settle" "settle" (aF 75) .none "lockstretch.waits" 816 548) ::
 (nat_lit 550,kD (kE P "shared" 901 (.str "write" 902) :: kE P "alone" 903 (.str "read" 904) :: []) 2) ::
 (nat_lit 556,kC "new_handle" "new_handle" 908 287 2 0 0 3 551 916) ::
 (nat_lit 557,kF "new_handle" "new_handle" (aF 78) .none "lockstretch.deeds" 899 556) ::
 (nat_lit 563,kC "add_user" "add_user" 919 293 3 0 0 3 558 928) ::
 (nat_lit 564,kF "add_user" "add_user" (aF 79) .none "lockstretch.deeds" 899 563) ::
 (nat_lit 570,kC "lead" "lead" 931 296 4 0 0 3 565 939) ::
 (nat_lit 571,kF "lead" "lead" (aF 80) .none "lockstretch.deeds" 899 570) ::
 (nat_lit 575,kQ "lose_user" "lose_user" 942 300 3 0 0 3 572 945) ::
 (nat_lit 576,kF "lose_user" "lose_user" (aF 81) .none "lockstretch.deeds" 899 575) ::
 (nat_lit 580,kQ "shut" "shut" 948 309 3 0 0 3 577 951) ::
 (nat_lit 581,kF "shut" "shut" (aF 82) .none "lockstretch.deeds" 899 580) ::
 (nat_lit 587,kC "end_task" "end_task" 954 317 2 0 0 3 582 962) ::
 (nat_lit 588,kF "end_task" "end_task" (aF 83) .none "lockstretch.deeds" 899 587) ::
 (nat_lit 594,kC "take_or_wait" "take_or_wait" 965 324 3 0 0 3 589 972) ::
 (nat_lit 595,kF "take_or_wait" "take_or_wait" (aF 84) .none "lockstretch.deeds" 899 594) ::
 (nat_lit 601,kC "do_begin" "do_begin" 975 334 2 0 0 3 596 981) ::
 (nat_lit 602,kF "do_begin" "do_begin" (aF 85) .none "lockstretch.deeds" 899 601) ::
 (nat_lit 608,kC "do_attach" "do_attach" 984 338 2 0 0 3 603 994) ::
 (nat_lit 609,kF "do_attach" "do_attach" (aF 86) .none "lockstretch.deeds" 899 608) ::
 (nat_lit 636,kC "do_end" "do_end" 1032 372 2 0 0 3 631 1038) ::
 (nat_lit 637,kF "do_end" "do_end" (aF 90) .none "lockstretch.deeds" 899 636) ::
 (nat_lit 643,kC "do_lock" "do_lock" 1041 376 2 0 0 3 638 1054) ::
 (nat_lit 644,kF "do_lock" "do_lock" (aF 91) .none "lockstretch.deeds" 899 643) ::
 (nat_lit 650,kC "do_unlock" "do_unlock" 1057 386 2 0 0 3 645 1068) ::
 (nat_lit 651,kF "do_unlock" "do_unlock" (aF 92) .none "lockstretch.deeds" 899 650) ::
 (nat_lit 657,kC "do_cancel" "do_cancel" 1071 393 2 0 0 3 652 1077) ::
 (nat_lit 658,kF "do_cancel" "do_cancel" (aF 93) .none "lockstretch.deeds" 899 657) ::
 (nat_lit 673,kD (kE P "begin" 1104 (.ref 602) :: kE P "attach" 1105 (.ref 609) :: kE P "dup" 1106 (.ref 616) :: kE P "close" 1107 (.ref 623) :: kE P "fork" 1108 (.ref 630) :: kE P "end" 1109 (.ref 637) :: kE P "lock" 1110 (.ref 644) :: kE P "unlock" 1111 (.ref 651) :: kE P "cancel" 1112 (.ref 658) :: kE P "lock_whole" 1113 (.ref 665) :: kE P "unlock_whole" 1114 (.ref 672) :: []) 11) ::
 (nat_lit 679,kC "do_deed" "do_deed" 1127 409 3 0 0 3 674 1135) ::
 (nat_lit 680,kF "do_deed" "do_deed" (aF 97) .none "lockstretch.deeds" 899 679) ::
 (nat_lit 691,kQ "__init__" "Tables.__init__" 1152 417 3 0 0 3 688 1155) ::
 (nat_lit 692,kF "__init__" "Tables.__init__" (aA (aF 99) 0) .none "lockstretch.tables" 1138 691) ::
 (nat_lit 698,kC "put" "Tables.put" 1158 430 4 0 0 3 693 1165) ::
 (nat_lit 699,kF "put" "Tables.put" (aA (aF 99) 1) .none "lockstretch.tables" 1138 698) ::
 (nat_lit 705,kC "drop" "Tables.drop" 1168 434 3 0 0 3 700 1174) ::
 (nat_lit 706,kF "drop" "Tables.drop" (aA (aF 99) 2) .none "lockstretch.tables" 1138 705) ::
 (nat_lit 719,kC "fresh" "Tables.fresh" 1188 447 2 0 0 3 714 1194) ::
 (nat_lit 720,kF "fresh" "Tables.fresh" (aA (aF 99) 4) .none "lockstretch.tables" 1138 719) ::
 (nat_lit 722,kD (kE P "__module__" 1147 (.str "lockstretch.tables" 1138) :: kE P "__firstlineno__" 1151 (.int 415 1150) :: kE P "__init__" 1157 (.ref 692) :: kE P "put" 1167 (.ref 699) :: kE P "drop" 1176 (.ref 706) :: kE P "undo_to" 1187 (.ref 713) :: kE P "fresh" 1196 (.ref 720) :: kE P "__static_attributes__" 1208 (.ref 721) :: kE P "__dict__" 1210 (.ref 724) :: kE P "__weakref__" 1212 (.ref 725) :: kE P "__doc__" 1213 .none :: []) 4) ::
 (nat_lit 723,kL "Tables" 723 722 1140 1148) ::
 (nat_lit 735,kD (kE P "fair" 1230 (.bool false) :: []) 1) ::
 (nat_lit 741,kC "__init__" "Desk.__init__" 1231 454 2 0 1 3 736 1237) ::
 (nat_lit 742,kF "__init__" "Desk.__init__" (aA (aF 101) 0) (.ref 735) "lockstretch.desks" 1216 741) ::
 (nat_lit 748,kC "perform" "Desk.perform" 1240 461 3 0 0 3 743 1248) ::
 (nat_lit 749,kF "perform" "Desk.perform" (aA (aF 101) 1) .none "lockstretch.desks" 1216 748) ::
 (nat_lit 755,kC "do" "Desk.do" 1251 471 3 0 0 3 750 1258) ::
 (nat_lit 756,kF "do" "Desk.do" (aA (aF 101) 2) .none "lockstretch.desks" 1216 755) ::
 (nat_lit 762,kC "begin" "Desk.begin" 1261 476 1 0 0 3 757 1265) ::
 (nat_lit 763,kF "begin" "Desk.begin" (aA (aF 101) 3) .none "lockstretch.desks" 1216 762) ::
 (nat_lit 764,kD (kE P "mode" 1269 (.str "both" 1268) :: []) 1) ::
 (nat_lit 770,kC "attach" "Desk.attach" 1270 479 3 0 1 3 765 1277) ::
 (nat_lit 771,kF "attach" "Desk.attach" (aA (aF 101) 4) (.ref 764) "lockstretch.desks" 1216 770) ::
 (nat_lit 799,kC "end" "Desk.end" 1308 491 2 0 0 3 794 1313) ::
 (nat_lit 800,kF "end" "Desk.end" (aA (aF 101) 8) .none "lockstretch.desks" 1216 799) ::
 (nat_lit 801,kD (kE P "by" 1317 (.str "task" 1316) :: kE P "wait" 1318 (.bool false) :: []) 2) ::
 (nat_lit 807,kC "lock" "Desk.lock" 1319 494 5 0 2 3 802 1329) ::
 (nat_lit 808,kF "lock" "Desk.lock" (aA (aF 101) 9) (.ref 801) "lockstretch.desks" 1216 807) ::
 (nat_lit 809,kD (kE P "by" 1333 (.str "task" 1332) :: []) 1) ::
 (nat_lit 815,kC "unlock" "Desk.unlock" 1334 497 4 0 1 3 810 1342) ::
 (nat_lit 816,kF "unlock" "Desk.unlock" (aA (aF 101) 10) (.ref 809) "lockstretch.desks" 1216 815) ::
 (nat_lit 822,kC "cancel" "Desk.cancel" 1345 500 2 0 0 3 817 1350) ::
 (nat_lit 823,kF "cancel" "Desk.cancel" (aA (aF 101) 11) .none "lockstretch.desks" 1216 822) ::
 (nat_lit 867,kD (kE P "by" 1406 (.str "task" 1405) :: []) 1) ::
 (nat_lit 873,kC "probe" "Desk.probe" 1407 522 5 0 1 3 868 1417) ::
 (nat_lit 874,kF "probe" "Desk.probe" (aA (aF 101) 18) (.ref 867) "lockstretch.desks" 1216 873) ::
 (nat_lit 880,kC "locks" "Desk.locks" 1420 529 2 0 0 3 875 1425) ::
 (nat_lit 881,kF "locks" "Desk.locks" (aA (aF 101) 19) .none "lockstretch.desks" 1216 880) ::
 (nat_lit 901,kC "asks" "Desk.asks" 1457 550 1 0 0 3 896 1461) ::
 (nat_lit 902,kF "asks" "Desk.asks" (aA (aF 101) 22) .none "lockstretch.desks" 1216 901) ::
 (nat_lit 908,kC "outcome" "Desk.outcome" 1464 553 2 0 0 3 903 1469) ::
 (nat_lit 909,kF "outcome" "Desk.outcome" (aA (aF 101) 23) .none "lockstretch.desks" 1216 908) ::
 (nat_lit 915,kC "why" "Desk.why" 1472 556 2 0 0 3 910 1478) ::
 (nat_lit 916,kF "why" "Desk.why" (aA (aF 101) 24) .none "lockstretch.desks" 1216 915) ::
 (nat_lit 984,kD (kE P "__module__" 1225 (.str "lockstretch.desks" 1216) :: kE P "__firstlineno__" 1229 (.int 452 1228) :: kE P "__init__" 1239 (.ref 742) :: kE P "perform" 1250 (.ref 749) :: kE P "do" 1260 (.ref 756) :: kE P "begin" 1267 (.ref 763) :: kE P "attach" 1279 (.ref 771) :: kE P "dup" 1290 (.ref 779) :: kE P "close" 1299 (.ref 786) :: kE P "fork" 1307 (.ref 793) :: kE P "end" 1315 (.ref 800) :: kE P "lock" 1331 (.ref 808) :: kE P "unlock" 1344 (.ref 816) :: kE P "cancel" 1352 (.ref 823) :: kE P "lock_whole" 1364 (.ref 831) :: kE P "unlock_whole" 1373 (.ref 838) :: kE P "tasks" 1380 (.ref 845) :: kE P "handles" 1388 (.ref 852) :: kE P "mark" 1396 (.ref 859) :: kE P "is_asleep" 1404 (.ref 866) :: kE P "probe" 1419 (.ref 874) :: kE P "locks" 1427 (.ref 881) :: kE P "whole_locks" 1435 (.ref 888) :: kE P "may" 1456 (.ref 895) :: kE P "asks" 1463 (.ref 902) :: kE P "outcome" 1471 (.ref 909) :: kE P "why" 1480 (.ref 916) :: kE P "ending" 1487 (.ref 923) :: kE P "deeds" 1493 (.ref 928) :: kE P "undone" 1500 (.ref 935) :: kE P "back" 1510 (.ref 942) :: kE P "again" 1519 (.ref 949) :: kE P "counts" 1526 (.ref 956) :: kE P "many_locks" 1532 (.ref 961) :: kE P "__eq__" 1540 (.ref 968) :: kE P "__len__" 1547 (.ref 975) :: kE P "__str__" 1554 (.ref 982) :: kE P "__static_attributes__" 1560 (.ref 983) :: kE P "__dict__" 1562 (.ref 986) :: kE P "__weakref__" 1564 (.ref 987) :: kE P "__doc__" 1565 .none :: kE P "__hash__" 1566 .none :: []) 5) ::
 (nat_lit 985,kL "Desk" 985 984 1218 1226) ::
 (nat_lit 995,kC "_law_draw" "_law_draw" 1571 603 3 0 0 3 990 1580) ::
 (nat_lit 996,kF "_law_draw" "_law_draw" (aF 103) .none "law_lockstretch_k42_fair_by_hand" 1569 995) ::
 (nat_lit 1002,kC "_law_begun" "_law_begun" 1583 613 0 0 0 3 997 1586) ::
 (nat_lit 1003,kF "_law_begun" "_law_begun" (aF 104) .none "law_lockstretch_k42_fair_by_hand" 1569 1002) ::
 (nat_lit 1007,kQ "law" "law" 1589 615 1 0 0 3 1004 1592) ::
 (nat_lit 1008,kF "law" "law" (aF 105) .none "law_lockstretch_k42_fair_by_hand" 1569 1007) :: []
noncomputable def ks:List Addr:=3 :: 203 :: 204 :: 210 :: 211 :: 217 :: 218 :: 224 :: 225 :: 231 :: 232 :: 238 :: 239 :: 245 :: 246 :: 252 :: 253 :: 259 :: 260 :: 266 :: 267 :: 273 :: 274 :: 275 :: 276 :: 277 :: 284 :: 285 :: 291 :: 292 :: 298 :: 299 :: 305 :: 306 :: 312 :: 313 :: 319 :: 320 :: 326 :: 327 :: 340 :: 341 :: 347 :: 348 :: 354 :: 355 :: 361 :: 362 :: 375 :: 376 :: 382 :: 383 :: 387 :: 388 :: 394 :: 395 :: 406 :: 407 :: 413 :: 414 :: 420 :: 421 :: 425 :: 426 :: 430 :: 431 :: 437 :: 438 :: 444 :: 445 :: 449 :: 450 :: 456 :: 457 :: 463 :: 464 :: 470 :: 471 :: 477 :: 478 :: 484 :: 485 :: 491 :: 492 :: 498 :: 499 :: 505 :: 506 :: 510 :: 511 :: 515 :: 516 :: 520 :: 521 :: 527 :: 528 :: 534 :: 535 :: 541 :: 542 :: 548 :: 549 :: 550 :: 556 :: 557 :: 563 :: 564 :: 570 :: 571 :: 575 :: 576 :: 580 :: 581 :: 587 :: 588 :: 594 :: 595 :: 601 :: 602 :: 608 :: 609 :: 636 :: 637 :: 643 :: 644 :: 650 :: 651 :: 657 :: 658 :: 673 :: 679 :: 680 :: 691 :: 692 :: 698 :: 699 :: 705 :: 706 :: 719 :: 720 :: 722 :: 723 :: 735 :: 741 :: 742 :: 748 :: 749 :: 755 :: 756 :: 762 :: 763 :: 764 :: 770 :: 771 :: 799 :: 800 :: 801 :: 807 :: 808 :: 809 :: 815 :: 816 :: 822 :: 823 :: 867 :: 873 :: 874 :: 880 :: 881 :: 901 :: 902 :: 908 :: 909 :: 915 :: 916 :: 984 :: 985 :: 995 :: 996 :: 1002 :: 1003 :: 1007 :: 1008 :: []
theorem Ji (P:Params):ks = (KK P).map (·.1):=rfl
noncomputable abbrev Hk:Hook:=kmHook KK ks Ji [213]
noncomputable abbrev Xt (s:Shared):Bool:=xlAt qv [] s && recOk (RowW.records PySem.Challenge.rw_lockstretch_k42_fair_by_hand.row.toRowW) s
abbrev Mn (w:World):Prop:=(fun os=>(segRunT treeTable pw w 11 Iu 1 7412 (St w os) (piecesOf (behindTheImports pw) (env pw) (cd pw) p0 B)).map fun r=>(r.1,r.2.2.1,
  (staticsOk (importedModules pw.main.body) (boot_heap w.params) r.2.1.abs.heap && namesBound pw r.2.1.abs.heap && gensDone r.2.1.abs && laidKept (boot_heap w.params) r.2.1.abs.heap),
  openSeen qv ls (importedModules pw.main.body) Xt true r.2.1.abs,ks.all (fun a=>Nat.blt a r.2.1.n),[213].all (fun a=>Nat.blt a r.2.1.n),ks.map (gt r.2.1.tree),[213].map (gt r.2.1.tree))) =
 fun _=>some (.next,cd pw,true,openGood qv ls,true,true,(KK w.params).map (fun p=>some p.2),[213].map fun _=>some (tabObj #[]))
theorem Kq (w:World):Mn (w.withFollow "special-get-raises" false):=by
 show (fun os=>_) = _
 rw [PySem.W.Fast.te5923862056798008813,PySem.W.Fast.te4187177175401517315,PySem.W.Fast.te14364793385576792824,PySem.W.Fast.te10110043849684766642]
 kernel_rfl
theorem Kr (w:World):Mn (w.withFollow "special-get-raises" true):=by
 show (fun os=>_) = _
 rw [PySem.W.Fast.te5923862056798008813,PySem.W.Fast.te4187177175401517315,PySem.W.Fast.te14364793385576792824,PySem.W.Fast.te10110043849684766642]
 kernel_rfl
theorem left:LeftO pw qv ls Xt Hk.obs Hk.val 20000:=Ex (K:=KK) (M:=7412) (by kernel_rfl) (by decide) (fun s=>by kernel_rfl) (fun w os=>by kernel_rfl) (fun w os=>by kernel_rfl) (byRow2 "special-get-raises" Kq Kr) (by decide)
noncomputable abbrev rl:OpenLaw:=PySem.Challenge.rw_lockstretch_k42_fair_by_hand
noncomputable abbrev dL:DefRec:=⟨"law",bV (RB.aF 105),bd (RB.aF 105),ag (RB.aF 105),⟨615,0,653,56⟩⟩
theorem hd1:defOf qv rl.row.name = some (dL,[]):=by kernel_rfl
theorem hd2:rl.row.prog.theDef rl.row.name = some (dL.params,dL.body,dL.scope):=by kernel_rfl
theorem hd3:kwWritten? dL.params.kwonlyargs dL.params.kw_defaults = some []:=by kernel_rfl
theorem hd4:(!rl.row.writes || rl.row.records.isEmpty) = true:=by kernel_rfl
theorem hd5:(chainsOk qv && opensWell rl.row.prog && (frees rl.row.toRowW && rl.row.within.isEmpty)) = true:=by kernel_rfl
theorem hd6:rl.row.prog.bare:=⟨rfl,rfl,rfl,rfl,rfl,by decide +kernel⟩
theorem said:rl.wellSaid = true:=by
 unfold OpenLaw.wellSaid OpenRow.wellSaid
 repeat' with_reducible refine look_both ?_ ?_
 all_goals decide +kernel
end OH
namespace L2
open PySem PySem.Spec PyProof.Rows
def eY (cells:List (Str × Addr)):List (Str × NameKind) → List (Str × Addr) → List (Str × Addr)
 | [],acc=>acc
 | (n,k) :: r,acc=>if k == .free then eY cells r ((n,(cells.lookup n).getD 0) :: acc) else eY cells r acc
theorem Ey {env:Env} {names:List (Str × NameKind)} (h:∀ y ∈ names,y.2 = .free → ∃ c,env.cells.lookup y.1 = some c) (acc:List (Str × Addr)) :
  (forIn (m:=Sem) names acc fun x cs=>do
   let (name,kind):=x
   if kind == .free then
    let c ← cellOf env name
    pure (ForInStep.yield ((name,c) :: cs))
   else pure (ForInStep.yield cs)) = pure (eY env.cells names acc):=by
 induction names generalizing acc with
 | nil=>rfl
 | cons y r ih =>
  obtain ⟨n,k⟩:=y
  have hr:∀ y ∈ r,y.2 = .free → ∃ c,env.cells.lookup y.1 = some c:=fun y hy=>h y (List.mem_cons_of_mem _ hy)
  rw [List.forIn_cons]
  cases hk:(k == NameKind.free) with
  | true =>
   have e:k = .free:=by simpa using hk
   obtain ⟨c,hc⟩:=h (n,k) List.mem_cons_self e
   have hc':cellOf env n = pure c:=by unfold cellOf; rw [show env.cells.lookup n = some c from hc]
   simp only [hk,if_true,hc',eY]
   have:=ih hr ((n,c) :: acc)
   rw [show (env.cells.lookup n).getD 0 = c by rw [show env.cells.lookup n = some c from hc]; rfl]
   exact this
  | false =>
   simp only [hk,Bool.false_eq_true,if_false,eY]
   exact ih hr acc
theorem eG {sc:Scope} {env:Env} (h:∀ y ∈ sc.names,y.2 = .free → ∃ c,env.cells.lookup y.1 = some c):closureFor sc env = pure (eY env.cells sc.names []):=by
 have:=Ey h []
 unfold closureFor
 refine (congrArg (fun (m:Sem (List (Str × Addr)))=>m >>= fun cs=>pure cs) this).trans ?_
 rfl
theorem gx {cells:List (Str × Addr)} {x:Str} {c:Addr}:∀ {names:List (Str × NameKind)} {acc:List (Str × Addr)},(∀ y ∈ names,y.2 = .free → ∃ c,cells.lookup y.1 = some c) → (∀ x c,acc.lookup x = some c → cells.lookup x = some c) →
  (eY cells names acc).lookup x = some c → cells.lookup x = some c
 | [],acc,_,ha,h=>ha x c h
 | (n,k) :: r,acc,hf,ha,h=>by
  have hr:∀ y ∈ r,y.2 = .free → ∃ c,cells.lookup y.1 = some c:=fun y hy=>hf y (List.mem_cons_of_mem _ hy)
  unfold eY at h
  split at h
  ·rename_i hk
   refine gx hr (fun z d hz=>?_) h
   rw [List.lookup_cons] at hz
   split at hz
   ·rename_i e
    have e:z = n:=by simpa using e
    subst e
    obtain ⟨c',hc'⟩:=hf (z,k) List.mem_cons_self (by simpa using hk)
    rw [show cells.lookup z = some c' from hc'] at hz ⊢
    exact hz
   ·exact ha z d hz
  ·exact gx hr ha h
theorem kG {cells:List (Str × Addr)} {x:Str}:∀ {names:List (Str × NameKind)} {acc:List (Str × Addr)},((x,NameKind.free) ∈ names ∨ ∃ c,acc.lookup x = some c) → ∃ c,(eY cells names acc).lookup x = some c
 | [],acc,h=>by
  rcases h with h | h
  ·simp at h
  ·exact h
 | (n,k) :: r,acc,h=>by
  unfold eY
  by_cases hk:(k == NameKind.free) = true
  ·rw [if_pos hk]
   refine kG ?_
   rcases h with h | ⟨c,h⟩
   ·rcases List.mem_cons.mp h with e | h
    ·cases e
     exact .inr ⟨_,by rw [List.lookup_cons,beq_self_eq_true]⟩
    ·exact .inl h
   ·right
    rw [List.lookup_cons]
    cases e:(x == n)
    ·exact ⟨c,h⟩
    ·exact ⟨_,rfl⟩
  ·rw [if_neg hk]
   refine kG ?_
   rcases h with h | h
   ·rcases List.mem_cons.mp h with e | h
    ·cases e
     simp at hk
    ·exact .inl h
   ·exact .inr h

@[reducible] def dn (X:Cx) (sc:Scope) (Nc:List Str) (C:Addr) (s:Shared) (H:Hp) (ex:List Addr) (pn:List (Addr × Obj)):Cx where
 prog:=X.prog
 w:=X.w
 K:=X.K
 mg:=X.mg
 base:=X.base
 A:=X.A
 N:=Nc
 s₀:=s
 H₀:=H
 env:=compEnvC sc (eY X.env.cells sc.names []) C X.env
 outer:=X.stack
 stack:=X.stack
 ex:=ex
 fn:=fun _=>false
 calm:=X.calm
 pn:=pn
 xe:=fun _ _=>False

structure aW (up:Scope) (N:List Str) (sc:Scope) (Nc:List Str) (ix:List (Option Nat)):Prop where
 kind:sc.kind = .function
 nocell:∀ y ∈ sc.names,y.2 ≠ .cell
 loc:∀ y ∈ sc.names,y.2 = .local → sc.names.lookup y.1 = some .local
 free:∀ y ∈ sc.names,y.2 = .free → up.names.lookup y.1 = some .cell ∨ up.names.lookup y.1 = some .free
 nd:Nc.Nodup
 len:ix.length = Nc.length
 map:∀ p ∈ Nc.zip ix,(match p.2 with
  | none=>true
  | some j=>decide (N[j]? = some p.1) && decide (up.names.lookup p.1 = some .cell ∨ up.names.lookup p.1 = some .free) && decide ((p.1,NameKind.free) ∈ sc.names) && decide (sc.names.lookup p.1 = some .free)) = true
def gS (ix:List (Option Nat)) (σ:St):St:=ix.map fun o=>o.bind fun j=>σ[j]?.join
def xh (σ σ':St):Prop:=σ.length = σ'.length ∧ ∀ (i:Nat) v,σ[i]? = some (some v) → σ'[i]? = some (some v)
theorem oF {sc:Scope} {env:Env} {x:Str} (h:(relabel sc env).names.lookup x = some .cell ∨ (relabel sc env).names.lookup x = some .free) (hn:∀ y ∈ sc.names,y.2 ≠ .cell):(x,NameKind.free) ∈ sc.names:=by
 have key:∀ names:List (Str × NameKind),(∀ y ∈ names,y.2 ≠ .cell) → ∀ k,(names.map fun (n,k)=>if (k == NameKind.free && env.scope.kind == .function && env.kindOf n == some .cell) then (n,NameKind.cell) else (n,k)).lookup x = some k → (k = .cell ∨ k = .free) → (x,NameKind.free) ∈ names:=by
  intro names
  induction names with
  | nil=>intro _ k h; simp at h
  | cons y r ih =>
   intro hn k h hk
   obtain ⟨n,k'⟩:=y
   have hr:∀ y ∈ r,y.2 ≠ .cell:=fun y hy=>hn y (List.mem_cons_of_mem _ hy)
   rw [List.map_cons] at h
   dsimp only at h
   by_cases hc:(k' == NameKind.free && env.scope.kind == .function && env.kindOf n == some .cell) = true
   ·rw [if_pos hc,List.lookup_cons] at h
    cases e:(x == n)
    ·rw [e] at h
     exact List.mem_cons_of_mem _ (ih hr k h hk)
    ·have e:x = n:=by simpa using e
     subst e
     have:k' = .free:=by
      simp only [Bool.and_eq_true,beq_iff_eq] at hc
      exact hc.1.1
     subst this
     exact List.mem_cons_self
   ·rw [if_neg hc,List.lookup_cons] at h
    cases e:(x == n)
    ·rw [e] at h
     exact List.mem_cons_of_mem _ (ih hr k h hk)
    ·rw [e] at h
     have e:x = n:=by simpa using e
     subst e
     have h:k' = k:=by simpa using h
     subst h
     rcases hk with hk | hk
     ·exact absurd hk (hn _ List.mem_cons_self)
     ·subst hk; exact List.mem_cons_self
 rcases h with h | h
 ·exact key sc.names hn _ h (.inl rfl)
 ·exact key sc.names hn _ h (.inr rfl)
theorem tI {sc:Scope} {env:Env} {x:Str}:sc.names.lookup x = some .free → (relabel sc env).names.lookup x = some .cell ∨ (relabel sc env).names.lookup x = some .free:=by
 have key:∀ names:List (Str × NameKind),names.lookup x = some .free → (names.map fun (n,k)=>if (k == NameKind.free && env.scope.kind == .function && env.kindOf n == some .cell) then (n,NameKind.cell) else (n,k)).lookup x = some .cell ∨
   (names.map fun (n,k)=>if (k == NameKind.free && env.scope.kind == .function && env.kindOf n == some .cell) then (n,NameKind.cell) else (n,k)).lookup x = some .free:=by
  intro names
  induction names with
  | nil=>intro h; simp at h
  | cons y r ih =>
   intro h
   obtain ⟨n,k'⟩:=y
   rw [List.map_cons]
   dsimp only
   rw [List.lookup_cons] at h
   by_cases hc:(k' == NameKind.free && env.scope.kind == .function && env.kindOf n == some .cell) = true
   ·rw [if_pos hc]
    cases e:(x == n)
    ·rw [e] at h
     simp only [List.lookup_cons,e]
     exact ih h
    ·simp only [List.lookup_cons,e]
     exact .inl trivial
   ·rw [if_neg hc]
    cases e:(x == n)
    ·rw [e] at h
     simp only [List.lookup_cons,e]
     exact ih h
    ·rw [e] at h
     simp only [List.lookup_cons,e]
     exact .inr (by simpa using h)
 exact key sc.names

section
variable {sc:Scope} {Nc:List Str}
theorem aG.lcCl (I:aG X pins σ H s) (S:aW X.env.scope X.N sc Nc ix):∀ y ∈ sc.names,y.2 = .free → ∃ c,X.env.cells.lookup y.1 = some c:=fun y hy e=>I.ok.has y.1 (S.free y hy e)

theorem aG.lcOk {C:Addr} {fp:List Addr} {pn:List (Addr × Obj)} (I:aG X pins σ H s) (S:aW X.env.scope X.N sc Nc ix) (hC:s.heap.objs.size ≤ C) (hf:∀ b ∈ fp,d6 X pins H b) (hfs:∀ b ∈ fp,b < s.heap.objs.size) :
  (dn X sc Nc C s H fp pn).Ok:=by
 have hcl:=I.lcCl S
 have sub:∀ x c,(eY X.env.cells sc.names []).lookup x = some c → X.env.cells.lookup x = some c:=fun x c h=>gx hcl (fun _ _ z=>by simp at z) h
 refine ⟨I.ok.mod,S.kind,I.ok.glob,I.ok.blt,hC,fun x y c h1 h2=>I.ok.inj x y c (sub _ _ h1) (sub _ _ h2),fun x hx=>?_,fun x c h=>(by cases h),I.ok.hd,I.ok.frames,.inl rfl,fun b hb=>⟨?_,fun x c e=>(hf b hb).2.2.2.2.1 x c (sub x c e)⟩,
  I.bs,Nat.le_trans I.ok.bsz I.sz,fun b o e hb=>?_,fun b hb hm=>?_,I.stack,I.stkFree⟩
 ·exact kG (.inl (oF hx S.nocell))
 ·exact Nat.ne_of_lt (Nat.lt_of_lt_of_le (hfs b hb) hC)
 ·rcases (hf b hb).2.2.2.1 with z | z
  ·exact I.ok.noex b o e z
  ·exact absurd (Nat.lt_of_lt_of_le (Heap.lt_size e) (Nat.le_trans I.ok.bsz z)) (Nat.lt_irrefl _)
 ·rcases List.mem_cons.mp (I.stkSub b hm) with z | z
  ·exact (hf b hb).2.1 z
  ·exact (hf b hb).2.2.1 z

theorem Ez {N:List Str} {up:Scope} (S:aW up N sc Nc ix) {i:Nat} {x:Str} {v:V} (h1:Nc[i]? = some x) (h2:(gS ix σ)[i]? = some (some v)) :
  ∃ j:Nat,N[j]? = some x ∧ σ[j]? = some (some v) ∧ (up.names.lookup x = some .cell ∨ up.names.lookup x = some .free) ∧ (x,NameKind.free) ∈ sc.names ∧ sc.names.lookup x = some .free:=by
 unfold gS at h2
 rw [List.getElem?_map] at h2
 cases e:ix[i]? with
 | none=>rw [e] at h2; cases h2
 | some o =>
  rw [e] at h2
  cases o with
  | none=>simp at h2
  | some j =>
   have hm:(x,some j) ∈ Nc.zip ix:=by
    refine List.mem_of_getElem? (i:=i) ?_
    rw [List.getElem?_zip_eq_some]
    exact ⟨h1,e⟩
   have q:=S.map _ hm
   simp only [Bool.and_eq_true,decide_eq_true_eq] at q
   obtain ⟨⟨⟨q1,q2⟩,q3⟩,q4⟩:=q
   refine ⟨j,q1,?_,q2,q3,q4⟩
   have h2:(σ[j]?).join = some v:=by simpa using h2
   cases z:σ[j]? with
   | none=>rw [z] at h2; cases h2
   | some u =>
    rw [z] at h2
    have h2:u = some v:=h2
    rw [h2]

theorem aG.lcStart {fp:List Addr} {h₁:Heap} {tk:Nat} (I:aG X pins σ H s) (S:aW X.env.scope X.N sc Nc ix) (hf:∀ b ∈ fp,d6 X pins H b) (hfs:∀ b ∈ fp,b < s.heap.objs.size)
  (hns:∃ m,h₁.Ns s.heap.objs.size m) (hk:∀ b o,s.heap.get? b = some o → h₁.get? b = some o) :
  aG (dn X sc Nc s.heap.objs.size s H fp (X.pn ++ pins)) [] (gS ix σ) H { s with heap:=h₁,toks:=tk }:=by
 have hcl:=I.lcCl S
 have sub:∀ x c,(eY X.env.cells sc.names []).lookup x = some c → X.env.cells.lookup x = some c:=fun x c h=>gx hcl (fun _ _ z=>by simp at z) h
 have cellK:∀ c v,s.heap.IsCell c v → h₁.IsCell c v:=fun c v ⟨o,ho,hd⟩=>⟨o,hk c o ho,hd⟩
 obtain ⟨m,hn⟩:=hns
 refine ⟨I.lcOk S (Nat.le_refl _) hf hfs,rfl,I.bare,Un.kept hk,⟨m,hn,fun i x v h1 h2 _=>?_⟩,fun x c h=>?_,I.hok.fresh (Nat.le_refl _),fun x c h=>I.freeC x c (sub x c h),fun p hp=>?_,I.hok.kept hk,?_⟩
 ·obtain ⟨j,e1,e2,e3,e4,e5⟩:=Ez S h1 h2
  obtain ⟨m',hn',hl⟩:=I.loc
  obtain ⟨u,r,l⟩:=hl j x v e1 e2 (.inr e3)
  refine ⟨u,r,.inr ⟨tI e5,?_⟩⟩
  have e3':X.env.kindOf x = some .cell ∨ X.env.kindOf x = some .free:=e3
  rcases l with ⟨k,_⟩ | ⟨k,c,hc,hcell⟩
  ·rw [k] at e3'
   rcases e3' with z | z <;> cases z
  ·obtain ⟨c',hc'⟩:=kG (cells:=X.env.cells) (names:=sc.names) (acc:=[]) (.inl e4)
   have:=sub x c' hc'
   rw [hc] at this
   cases this
   exact ⟨c,hc',cellK _ _ hcell⟩
 ·obtain ⟨v,hv⟩:=I.cell x c (sub x c h)
  exact ⟨v,cellK _ _ hv⟩
 ·have hp:p ∈ X.pn ++ pins:=by
   have hp:p ∈ (X.pn ++ pins) ++ []:=hp
   rwa [List.append_nil] at hp
  obtain ⟨e,n,ne,nf,d⟩:=I.pin p hp
  refine ⟨hk _ _ e,n,Nat.ne_of_lt (Heap.lt_size e),fun hm=>?_,d⟩
  rcases List.mem_cons.mp (I.stkSub p.1 hm) with z | z
  ·exact ne z
  ·exact nf z
 ·unfold gS
  rw [List.length_map]
  exact S.len

theorem aG.lcEnd {C D:Addr} {fp:List Addr} {pn:List (Addr × Obj)} {σ':St} {He:Hp} {se:Shared} {its:List Value} {n:Nat} (I:aG X pins σ H s) (Ie:aG (dn X sc Nc C s H (D :: fp) pn) [] σ' He se)
  (hf:∀ b ∈ D :: fp,d6 X pins H b) (hD:He D = none) (hdat:se.heap.get? D = some { cls:=.type "list",data:=.seq its.toArray n }) (hv:aN vs its) (hz:vs.length ≤ sizeLine) :
  aG X pins σ (upd He D (.lst vs)) se:=by
 have hb:Un (vd X.stack) (D :: fp) H He s.heap se.heap:=Ie.base
 have hDn:H D = none:=(hf D List.mem_cons_self).1
 have un:Un (vd X.stack) (D :: fp) H (upd He D (.lst vs)) s.heap se.heap:=by
  have ne:∀ b,b ∉ D :: fp → b ≠ D:=fun b h z=>h (z ▸ List.mem_cons_self)
  have neS:∀ b u,H b = some u → b ≠ D:=fun b u e z=>by subst z; rw [hDn] at e; cases e
  exact ⟨hb.keep,hb.slot,fun b o q n hx=>by rw [am (ne b hx)]; exact hb.free b o q n hx,hb.there,fun b xs q=>by rw [am (neS b _ q)]; exact hb.tups b xs q,fun b o u q=>by rw [am (neS b _ q)]; exact hb.frzs b o u q,
   fun b ps q=>by rw [am (neS b _ q)]; exact hb.tbls b ps q⟩
 have hok:iF X.prog X.w (upd He D (.lst vs)) se.heap:=fun b u e=>by
  by_cases h:b = D
  ·subst h
   rw [aC] at e
   cases e
   exact ⟨hz,its,n,hv,hdat⟩
  ·rw [am h] at e
   refine (Ie.hok b u e).stay (fun _ _ _ q=>q) (fun c q=>?_) fun c xs q=>?_
   ·rw [am (by intro z; subst z; rw [hD] at q; cases q)]; exact q
   ·rw [am (by intro z; subst z; rw [hD] at q; cases q)]; exact q
 exact I.call' Ie.os un hok Ie.bare fun b hb=>⟨(hf b hb).2.2.2.1,(hf b hb).2.1,(hf b hb).2.2.2.2.1,(hf b hb).2.2.2.2.2⟩
end
def nc (X:Cx) (ifs:List Expr) (tt:TT):Prop :=
 ∀ (pins:List (Addr × Obj)) (s:Shared) (σ:St) (H:Hp) (Q:Bool → Hp → Prop),aG X pins σ H s → tt σ H Q →
  wpAny (model X.prog X.w) X.A (forIn ifs true fun c r=>if r = true then do let ok ← isTrue c X.env (eval c X.env); pure (ForInStep.yield ok) else pure (ForInStep.yield r)) (TP X pins σ Q) X.xe s
def Ks:TT:=fun _ H Q=>Q true H
theorem BN:nc X [] Ks:=fun _ _ _ H _ I h=>wpAny_pure ⟨H,I,h⟩
theorem BO {c:Expr} {t:TT} (h:PT X c t):nc X [c] t:=by
 intro pins s σ H Q I hw
 rw [List.forIn_cons]
 simp only [if_true]
 refine wpAny_bind (wpAny_bind (bw (h pins s σ H Q I hw) fun b s1 q=>?_))
 exact wpAny_pure (wpAny_pure q)

def G5 (ix:List (Option Nat)) (wi:TI) (g:TG) (tt:TT) (te:TE):TE:=fun σ H Q=>wi σ H fun J H1=>∃ W:Nat → Nat → List V → Hp → Prop,(∃ m,W 0 m [] H1) ∧ ∀ i m ys H,W i m ys H → ys.length < sizeLine ∧
 ((J.stop i H ∧ ∀ p,H p = none → Q (.ref p) (upd H p (.lst ys))) ∨ (J.go i H ∧ ∀ x H',J.yld i H x H' → g x (gS ix σ) H' fun σ2 H2=>xh (gS ix σ) σ2 ∧ tt σ2 H2 fun b H3 =>
  if b = true then te σ2 H3 fun y H4=>∃ m',m' < m ∧ W (i + 1) m' (ys ++ [y]) H4 else ∃ m',m' < m ∧ W (i + 1) m' ys H3))

section
variable {sc:Scope} {Nc:List Str} {elt tg iter:Expr} {ifs:List Expr} {wi:TI} {g:TG} {tt:TT} {te:TE}
theorem vz {s₂:Shared} {it:Addr} {fp:List Addr} {tn:Nat → Heap → Prop} {J:It} {H2:Hp} {RR:Value → Addr → Result → Shared → Prop} 
  (hc:X.calm = true) (S:aW X.env.scope X.N sc Nc ix) (hg:∀ C s H ex pn,PG (dn X sc Nc C s H ex pn) tg g) (hif:∀ C s H ex pn,nc (dn X sc Nc C s H ex pn) ifs tt) (he:∀ C s H ex pn,PE (dn X sc Nc C s H ex pn) elt te)
  (I:aG X pins σ H2 s₂) (T:vi X.prog X.w X.K tg J fp it tn) (st:tn 0 s₂.heap) (hf:∀ b ∈ fp,d6 X pins H2 b)
  (W:Nat → Nat → List V → Hp → Prop) (h0:∃ m,W 0 m [] H2) (Qe:List V → Hp → Prop)
  (turn:∀ i m ys H,W i m ys H → ys.length < sizeLine ∧ ((J.stop i H ∧ Qe ys H) ∨ (J.go i H ∧ ∀ x H',J.yld i H x H' → g x (gS ix σ) H' fun σ2 H2=>xh (gS ix σ) σ2 ∧ tt σ2 H2 fun b H3 =>
   if b = true then te σ2 H3 fun y H4=>∃ m',m' < m ∧ W (i + 1) m' (ys ++ [y]) H4 else ∃ m',m' < m ∧ W (i + 1) m' ys H3)))
  (hRR:∀ (D C:Addr) (ys:List V) (He:Hp) (se:Shared),aG X pins σ (upd He D (.lst ys)) se → He D = none → d6 X pins (upd He D (.lst ys)) C → (∃ m,se.heap.Ns C m) → C ≠ D → Qe ys He → RR (.ref D) C (.ok .next) se) :
  wpAny (model X.prog X.w) X.A (newList []) (fun acc s₃=>wpAny (model X.prog X.w) X.A (newFunctionEnv sc X.env.globals (eY X.env.cells sc.names []) [] X.env.qual none .none (some X.env)) (fun cenv s₄ =>
   codeAny (model X.prog X.w) X.A (.compStart (.ListComp elt [⟨tg,iter,ifs,0⟩] sc pos) 0 (.ref it) acc { cenv with scope:=relabel sc X.env }) (RR acc cenv.locals) s₄) E s₃) E s₂:=by
 refine wpAny_newObj_type (wpAny_newFunctionEnv S.nocell (by intro y hy; simp at hy) (fun h₁ hns₁ hsb₁=>?_) S.kind)
 dsimp only at hns₁ hsb₁ ⊢
 generalize hH2:s₂.heap.push { cls:=.type "list",dict:=none,data:=.seq ([]:List Value).toArray } = h3 at hns₁ hsb₁ ⊢
 have hC:h3.objs.size = s₂.heap.objs.size + 1:=by rw [← hH2,Heap.size_push]
 have k3:∀ b o,s₂.heap.get? b = some o → h3.get? b = some o:=fun b o e=>hH2 ▸ Heap.get?_push_of_some _ e
 have gD:h3.get? s₂.heap.objs.size = some { cls:=.type "list",dict:=none,data:=.seq ([]:List Value).toArray }:=by rw [← hH2]; exact Heap.get?_push_size _ rfl
 have I3:aG X pins σ H2 { s₂ with heap:=h3 }:=I.kept (t':=s₂.toks) k3
 have nD:H2 s₂.heap.objs.size = none:=I.hok.fresh (Nat.le_refl _)
 have fD:d6 X pins H2 s₂.heap.objs.size:=I.fpOk (Nat.le_refl _) nD
 have fpsz:∀ b ∈ fp,b < s₂.heap.objs.size:=fun b hb=>by
  obtain ⟨o,e,_⟩:=T.obj 0 _ st b hb
  exact Heap.lt_size e
 have hO:∀ b ∈ s₂.heap.objs.size :: fp,d6 X pins H2 b:=fun b hb=>by
  rcases List.mem_cons.mp hb with e | hb
  ·subst e; exact fD
  ·exact hf b hb
 have k1:∀ b o,h3.get? b = some o → h₁.get? b = some o:=fun b o e=>hsb₁.extBut b o (Nat.ne_of_lt (Heap.lt_size e)) (Heap.get?_push_of_some _ e)
 have I4:aG (dn X sc Nc h3.objs.size { s₂ with heap:=h3 } H2 (s₂.heap.objs.size :: fp) (X.pn ++ pins)) [] (gS ix σ) H2 { s₂ with heap:=h₁,toks:=s₂.toks + ([]:List (Str × Value)).length } :=
  I3.lcStart S hO (fun b hb=>by
   show b < h3.objs.size
   rw [hC]
   rcases List.mem_cons.mp hb with e | hb
   ·rw [e]; exact Nat.lt_succ_self _
   ·exact Nat.lt_succ_of_lt (fpsz b hb)) ⟨_,hns₁⟩ k1
 generalize hXc:dn X sc Nc h3.objs.size { s₂ with heap:=h3 } H2 (s₂.heap.objs.size :: fp) (X.pn ++ pins) = Xc at I4
 have eE:Xc.env = compEnvC sc (eY X.env.cells sc.names []) h3.objs.size X.env:=by rw [← hXc]
 have eP:Xc.prog = X.prog:=by rw [← hXc]
 have eW:Xc.w = X.w:=by rw [← hXc]
 have eK:Xc.K = X.K:=by rw [← hXc]
 have eA:Xc.A = X.A:=by rw [← hXc]
 have eC:Xc.calm = true:=by rw [← hXc]; exact hc
 have eX:Xc.xe = fun _ _=>False:=by rw [← hXc]
 have hg':PG Xc tg g:=by rw [← hXc]; exact hg _ _ _ _ _
 have hif':nc Xc ifs tt:=by rw [← hXc]; exact hif _ _ _ _ _
 have he':PE Xc elt te:=by rw [← hXc]; exact he _ _ _ _ _
 have eF:Xc.fs = vd X.stack:=by rw [← hXc]
 have eEx:Xc.ex = s₂.heap.objs.size :: fp:=by rw [← hXc]
 have ePn:Xc.pn = X.pn ++ pins:=by rw [← hXc]
 have hcl:=I.lcCl S
 have sub:∀ x c,(eY X.env.cells sc.names []).lookup x = some c → X.env.cells.lookup x = some c:=fun x c h=>gx hcl (fun _ _ z=>by simp at z) h
 have szAll:∀ b ∈ s₂.heap.objs.size :: fp,b ≠ h3.objs.size:=fun b hb=>by
  rw [hC]
  rcases List.mem_cons.mp hb with e | hb
  ·rw [e]; exact Nat.ne_of_lt (Nat.lt_succ_self _)
  ·exact Nat.ne_of_lt (Nat.lt_succ_of_lt (fpsz b hb))
 have fpD:∀ b ∈ fp,s₂.heap.objs.size ≠ b:=fun b hb=>Nat.ne_of_gt (fpsz b hb)
 have stat:∀ {H':Hp} {pp:List (Addr × Obj)},∀ b ∈ s₂.heap.objs.size :: fp,H' b = none → (∀ p ∈ pp,p.1 ≠ b) → d6 Xc pp H' b:=fun {H' pp} b hb hn hpp=>by
  refine ⟨hn,?_,?_,.inl (by rw [eEx]; exact hb),?_,?_⟩
  ·rw [eE]; exact szAll b hb
  ·rw [eF]
   intro hm
   rcases List.mem_cons.mp (I.stkSub b hm) with z | z
   ·exact (hO b hb).2.1 z
   ·exact (hO b hb).2.2.1 z
  ·rw [eE]
   intro x c e
   exact (hO b hb).2.2.2.2.1 x c (sub x c e)
  ·rw [ePn]
   intro p hp
   rcases List.mem_append.mp hp with hp | hp
   ·exact (hO b hb).2.2.2.2.2 p hp
   ·exact hpp p hp
 obtain ⟨m0,w0⟩:=h0
 have loop:∀ s₃:Shared,s₃ = { s₂ with heap:=h₁,toks:=s₂.toks + ([]:List (Str × Value)).length } →
   codeAny (model X.prog X.w) X.A (.compLoop (.ListComp elt [⟨tg,iter,ifs,0⟩] sc pos) 0 (.ref it) (.ref s₂.heap.objs.size) (compEnvC sc (eY X.env.cells sc.names []) h3.objs.size X.env)) (RR (.ref s₂.heap.objs.size) h3.objs.size) s₃:=by
  rintro s₃ rfl
  refine codeAny_loop rfl (fun n s'=>∃ i H' vs its k,aG Xc [] (gS ix σ) H' s' ∧ tn i s'.heap ∧ (∀ b ∈ s₂.heap.objs.size :: fp,H' b = none) ∧ s'.heap.get? s₂.heap.objs.size = some { cls:=.type "list",data:=.seq its.toArray k } ∧ aN vs its ∧ W i n vs H') ?_ m0
   ⟨0,H2,[],[],_,I4,T.keep _ _ _ st fun b hb o e=>k1 b o (k3 b o e),fun b hb=>(hO b hb).1,k1 _ _ gD,.nil,w0⟩
  rintro n s5 ⟨i,H5,vs,its,k,I5,st5,fr5,hd5,rv5,w5⟩
  show wpAny _ _ ((compTurn (.ListComp elt [⟨tg,iter,ifs,0⟩] sc pos) 0 (.ref it) (.ref s₂.heap.objs.size) (compEnvC sc (eY X.env.cells sc.names []) h3.objs.size X.env)).onRaise (fun x=>do noteFrame x (compEnvC sc (eY X.env.cells sc.names []) h3.objs.size X.env); theTreesLotGoes x)) _ _ s5
  refine wpAny_noted ?_
  rw [compTurn_list]
  refine wpAny_bind (wpAny_standAt (wpAny_bind ?_))
  obtain ⟨hsz,hturn⟩:=turn i n vs H5 w5
  have pD:∀ {H':Hp} {sx:Shared} {σx:St} {o:Obj},aG Xc [] σx H' sx → H' s₂.heap.objs.size = none → sx.heap.get? s₂.heap.objs.size = some o → (∀ v,o.data ≠ .cell v) → aG Xc [(s₂.heap.objs.size,o)] σx H' sx:=fun {H' sx σx o} Ix hn ho hd =>
   Ix.pins_of fun p hp=>by
    have e:p = (s₂.heap.objs.size,o):=by simpa using hp
    subst e
    have q:d6 Xc [] H' s₂.heap.objs.size:=stat _ List.mem_cons_self hn (fun p hp=>by simp at hp)
    exact ⟨ho,hn,q.2.1,q.2.2.1,hd⟩
  have f5:∀ {H':Hp} {o:Obj},(∀ b ∈ fp,H' b = none) → ∀ b ∈ fp,d6 Xc [(s₂.heap.objs.size,o)] H' b:=fun {H' o} fr b hb=>stat b (List.mem_cons_of_mem _ hb) (fr b hb) (fun p hp=>by
   have e:p = (s₂.heap.objs.size,o):=by simpa using hp
   subst e
   exact fpD b hb)
  have I5p:=pD I5 (fr5 _ List.mem_cons_self) hd5 (fun v z=>by cases z)
  have fr5':∀ b ∈ fp,H5 b = none:=fun b hb=>fr5 b (List.mem_cons_of_mem _ hb)
  rcases hturn with ⟨stop,qe⟩ | ⟨go,step⟩
  ·have q:=T.done Xc eP eW eK eC i _ s5 (gS ix σ) H5 (fun _ _=>False) I5p (f5 fr5') st5 stop
   rw [eA] at q
   refine wpAny_mono q (fun r s6 ⟨hr,I6⟩=>?_) fun _ _ z=>z.elim
   subst hr
   refine wpAny_pure ?_
   have hD6:=I6.pin (s₂.heap.objs.size,_) (List.mem_append_right _ List.mem_cons_self)
   have I6':aG (dn X sc Nc h3.objs.size { s₂ with heap:=h3 } H2 (s₂.heap.objs.size :: fp) (X.pn ++ pins)) [] (gS ix σ) H5 s6:=by rw [hXc]; exact I6.pins_of (fun p hp=>by simp at hp)
   have Ie:=I3.lcEnd (vs:=vs) (its:=its) I6' hO hD6.2.1 hD6.1 rv5 (Nat.le_of_lt hsz)
   have fr6:H5 h3.objs.size = none:=I6'.free
   have neC:h3.objs.size ≠ s₂.heap.objs.size:=Ne.symm (szAll _ List.mem_cons_self)
   obtain ⟨m6,hn6,_⟩:=I6'.loc
   refine hRR _ _ vs H5 s6 Ie hD6.2.1 (I3.fpOk (Nat.le_refl _) ?_) ⟨m6,hn6⟩ neC qe
   rw [am neC]; exact fr6
  ·have q:=T.item Xc eP eW eK eC i _ s5 (gS ix σ) H5 (fun _ _=>False) I5p (f5 fr5') st5 go
   rw [eA] at q
   refine wpAny_mono q (fun r s6 ⟨u,hr,h6⟩=>?_) fun _ _ z=>z.elim
   subst hr
   refine wpAny_bind (wpAny_mono h6 (fun _ s7 ⟨x,H7,I7,r7,y7,st7,fr7⟩=>?_) fun _ _ z=>z.elim)
   have I7':=I7.pinned (f5 fr7) (T.obj _ _ st7)
   have q8:=hg' _ s7 (gS ix σ) H7 x u _ I7' r7 (step x H7 y7)
   rw [eP,eW,eA,eE,eX] at q8
   refine wpAny_bind (wpAny_mono q8 (fun _ s8 ⟨σ8,H8,I8,q8⟩=>?_) fun _ _ z=>z.elim)
   obtain ⟨kp,q8⟩:=q8
   have q9:=hif' _ s8 σ8 H8 _ I8 q8
   rw [eP,eW,eA,eE,eX] at q9
   refine wpAny_bind (wpAny_mono q9 (fun b s9 ⟨H9,I9,q9⟩=>?_) fun _ _ z=>z.elim)
   -- what the pins say behind a step
   have back:∀ {H':Hp} {sx:Shared},aG Xc ([(s₂.heap.objs.size,({ cls:=.type "list",data:=.seq its.toArray k }:Obj))] ++ lH fp s7.heap) σ8 H' sx →
     aG Xc [] (gS ix σ) H' sx ∧ tn (i + 1) sx.heap ∧ (∀ b ∈ s₂.heap.objs.size :: fp,H' b = none) ∧ sx.heap.get? s₂.heap.objs.size = some { cls:=.type "list",data:=.seq its.toArray k }:=fun {H' sx} Ix=>by
    have pd:=Ix.pin (s₂.heap.objs.size,_) (List.mem_append_right _ List.mem_cons_self)
    refine ⟨(Ix.pins_of (pins':=[]) (fun p hp=>by simp at hp)).weak kp.1 kp.2,T.keep _ _ _ st7 fun b hb o e=>(Ix.pin (b,o) (List.mem_append_right _ (List.mem_append_right _ (d7 hb e)))).1,fun b hb=>?_,pd.1⟩
    rcases List.mem_cons.mp hb with e | hb
    ·rw [e]; exact pd.2.1
    ·obtain ⟨o,e,d⟩:=T.obj _ _ st7 b hb
     exact (Ix.pin (b,o) (List.mem_append_right _ (List.mem_append_right _ (d7 hb e)))).2.1
   cases b with
   | false =>
    obtain ⟨m',hm,w9⟩:=(by simpa using q9:∃ m',m' < n ∧ W (i + 1) m' vs H9)
    obtain ⟨a1,a2,a3,a4⟩:=back I9
    exact wpAny_pure ⟨rfl,m',hm,i + 1,H9,vs,its,k,a1,a2,a3,a4,rv5,w9⟩
   | true =>
    have q9:te σ8 H9 fun y H4=>∃ m',m' < n ∧ W (i + 1) m' (vs ++ [y]) H4:=by simpa using q9
    have q10:=he' _ s9 σ8 H9 _ I9 q9
    rw [eP,eW,eA,eE,eX] at q10
    refine wpAny_bind (wpAny_bind (wpAny_mono q10 (fun y s10 ⟨v10,H10,I10,r10,q10⟩=>?_) fun _ _ z=>z.elim))
    obtain ⟨m',hm,w10⟩:=q10
    obtain ⟨a1,a2,a3,a4⟩:=back I10
    refine wpAny_bind (wpAny_list_append_plain (l:=s₂.heap.objs.size) (items:=its.toArray) ⟨k,a4⟩ (fun h' hp hsb=>?_) (by rw [List.size_toArray,← rv5.length]; exact Nat.le_of_lt hsz))
    have fd:d6 Xc [] H10 s₂.heap.objs.size:=stat _ List.mem_cons_self (a3 _ List.mem_cons_self) (fun p hp=>by simp at hp)
    have I11:aG Xc [] (gS ix σ) H10 { s10 with heap:=h' }:=a1.turned (t':=s10.toks) (it:=s₂.heap.objs.size) (fun b o hb e=>(hsb.2 b hb).trans e) fd.1 fd.2.1 fd.2.2.2.1 fd.2.2.2.2.1 fd.2.2.2.2.2
    obtain ⟨k',hp⟩:=hp
    refine wpAny_pure (wpAny_pure ⟨rfl,m',hm,i + 1,H10,vs ++ [v10],its ++ [y],k',I11,T.keep _ _ _ a2 fun b hb o e=>(hsb.2 b (Ne.symm (fpD b hb))).trans e,a3,?_,rv5.append (.cons r10 .nil),w10⟩)
    rw [List.push_toArray] at hp
    exact hp
 exact codeAny_compStart_list (loop _ rfl) (T.self _ 0 _ _ _ (T.keep _ _ _ st fun b hb o e=>k1 b o (k3 b o e)) (loop _ rfl))

theorem aG.letGo {C:Addr} {h':Heap} (I:aG X pins σ H s) (f:d6 X pins H C) (hs:Heap.SameBut C s.heap h'):aG X pins σ H { s with heap:=h' } :=
 I.turned (t':=s.toks) (fun b o hb e=>(hs.2 b hb).trans e) f.1 f.2.1 f.2.2.2.1 f.2.2.2.2.1 f.2.2.2.2.2

theorem gz (hc:X.calm = true) (S:aW X.env.scope X.N sc Nc ix) (hi:PI X tg iter wi) (hg:∀ C s H ex pn,PG (dn X sc Nc C s H ex pn) tg g) (hif:∀ C s H ex pn,nc (dn X sc Nc C s H ex pn) ifs tt) (he:∀ C s H ex pn,PE (dn X sc Nc C s H ex pn) elt te)
  (hs:∀ x,foldedSetIterable iter X.env x = pure x:=by with_unfolding_all (intro _; rfl)):PE X (.ListComp elt [⟨tg,iter,ifs,0⟩] sc pos) (G5 ix wi g tt te):=by
 intro pins s σ H Q I h
 rw [eval_ListComp]
 refine wpAny_comprehension_free (use:=none) rfl hs (eG (I.lcCl S)) S.kind S.loc (bw (hi pins s σ H _ I h) fun v s1 h1=>bw h1 fun itv s2 h2=>?_)
 obtain ⟨it,fp,tn,J,H2,e,I2,T,st2,f2,W,w0,turn⟩:=h2
 subst e
 refine vz hc S hg hif he I2 T st2 f2 W w0 (fun ys H=>∀ p,H p = none → Q (.ref p) (upd H p (.lst ys))) turn (RR:=fun acc C=>compPost (model X.prog X.w) X.A X.xe none (EP X pins σ Q) acc C) ?_
 intro D C ys He se Ie hD fC hn hCD q
 obtain ⟨m,hn⟩:=hn
 exact ⟨m,hn,fun h' hs'=>⟨.ref D,_,Ie.letGo fC hs',rfl,q D hD⟩⟩

theorem vA {i:Nat} {x:Str} {pos' spos:Pos} (hc:X.calm = true) (hN:X.N.Nodup) (hx:X.N[i]? = some x) (hl:X.env.scope.names.lookup x = some .local) (S:aW X.env.scope X.N sc Nc ix) (hi:PI X tg iter wi) (hg:∀ C s H ex pn,PG (dn X sc Nc C s H ex pn) tg g)
  (hif:∀ C s H ex pn,nc (dn X sc Nc C s H ex pn) ifs tt) (he:∀ C s H ex pn,PE (dn X sc Nc C s H ex pn) elt te)
  (hsw:swapsWith (.ListComp elt [⟨tg,iter,ifs,0⟩] sc pos) (some (.Name x pos')) spos.line X.env = pure true:=by with_unfolding_all rfl)
  (hs:∀ x,foldedSetIterable iter X.env x = pure x:=by with_unfolding_all (intro _; rfl)):PS X (.Assign [.Name x pos'] (.ListComp elt [⟨tg,iter,ifs,0⟩] sc pos) spos) (ki (G5 ix wi g tt te) (ig i)):=by
 intro pins s σ H D I h
 rw [exec_Assign_Name_used _ _ _ _ hsw]
 refine wpAny_bind (wpAny_standAt (wpAny_bind ?_))
 show wpAny _ X.A (do let _ ← comprehension (.ListComp elt [⟨tg,iter,ifs,0⟩] sc pos) sc X.env _ (newList []) false (eval iter X.env) (some (assign (.Name x pos') X.env))) _ _ s
 refine wpAny_bind (wpAny_mono (wpAny_comprehension_free (use:=some (assign (.Name x pos') X.env)) (Q:=fun _ s'=>SP X pins D .next s') rfl hs (eG (I.lcCl S)) S.kind S.loc
  (bw (hi pins s σ H _ I h) fun v s1 h1=>bw h1 fun itv s2 h2=>?_)) (fun _ s' hq=>wpAny_pure (wpAny_pure hq)) fun _ _ e=>e)
 obtain ⟨it,fp,tn,J,H2,e,I2,T,st2,f2,W,w0,turn⟩:=h2
 subst e
 refine vz hc S hg hif he I2 T st2 f2 W w0 (fun ys H=>∀ p,H p = none → D.nx (σ.set i (some (.ref p))) (upd H p (.lst ys))) turn (RR:=fun acc C=>compPost (model X.prog X.w) X.A X.xe (some (assign (.Name x pos') X.env)) (fun _ s'=>SP X pins D .next s') acc C) ?_
 intro L C ys He se Ie hD fC hn hCD q
 obtain ⟨m,hn⟩:=hn
 show wpAny _ X.A (assign (.Name x pos') X.env (.ref L)) _ _ se
 refine wpAny_assign_Name (lE (v:=.ref L) Ie hN hx (.inl hl) rfl (fun s' I' ⟨a,hsb,ha⟩=>?_) (.inr hl))
 have ne:C ≠ a:=by
  rcases ha with e | e
  ·rw [e]; exact fC.2.1
  ·exact Ne.symm (fC.2.2.2.2.1 x a e)
 exact ⟨m,hn.sameBut hsb ne,fun h' hs'=>⟨_,_,I'.letGo fC hs',q L hD⟩⟩
end
inductive D where
 | non | bl (b:Bool) | int (i:Int) | str (x:Str) | tup (ds:List D) | lst (ds:List D)
mutual
def cm (H:Hp):D → V → Prop
 | .non,v=>v = .non
 | .bl b,v=>v = .bl b
 | .int i,v=>v = .int i
 | .str x,v=>v = .str x
 | .tup ds,v=>∃ a vs,v = .ref a ∧ H a = some (.tup vs) ∧ cn H ds vs
 | .lst ds,v=>∃ a vs,v = .ref a ∧ H a = some (.lst vs) ∧ cn H ds vs
def cn (H:Hp):List D → List V → Prop
 | [],vs=>vs = []
 | d :: ds,vs=>∃ v r,vs = v :: r ∧ cm H d v ∧ cn H ds r
end
mutual
theorem cm.mono {H H':Hp} (k:G2 H H'):∀ {d:D} {v:V},cm H d v → cm H' d v
 | .non,_,h=>by simpa [cm] using h
 | .bl _,_,h=>by simpa [cm] using h
 | .int _,_,h=>by simpa [cm] using h
 | .str _,_,h=>by simpa [cm] using h
 | .tup ds,v,h=>by
  rw [cm] at h ⊢
  obtain ⟨a,vs,e,ha,r⟩:=h
  exact ⟨a,vs,e,k _ _ ha,cn.mono k r⟩
 | .lst ds,v,h=>by
  rw [cm] at h ⊢
  obtain ⟨a,vs,e,ha,r⟩:=h
  exact ⟨a,vs,e,k _ _ ha,cn.mono k r⟩
theorem cn.mono {H H':Hp} (k:G2 H H'):∀ {ds:List D} {vs:List V},cn H ds vs → cn H' ds vs
 | [],vs,h=>by rw [cn] at h ⊢; exact h
 | d :: ds,vs,h=>by
  rw [cn] at h ⊢
  obtain ⟨v,r,e,h1,h2⟩:=h
  exact ⟨v,r,e,cm.mono k h1,cn.mono k h2⟩
end
theorem cn.cons {H:Hp} {d:D} {ds:List D} {v:V} {vs:List V} (h:cm H d v) (r:cn H ds vs):cn H (d :: ds) (v :: vs):=by
 rw [cn]; exact ⟨v,vs,rfl,h,r⟩
theorem cn.nil:cn H [] []:=by rw [cn]
theorem cn.uncons {d:D} {ds:List D} (h:cn H (d :: ds) vs):∃ v r,vs = v :: r ∧ cm H d v ∧ cn H ds r:=by
 rw [cn] at h; exact h
theorem cn.unnil (h:cn H [] vs):vs = []:=by
 rw [cn] at h; exact h
theorem cn.length:∀ {ds:List D} {vs:List V},cn H ds vs → vs.length = ds.length
 | [],vs,h=>by rw [h.unnil]; rfl
 | d :: ds,vs,h=>by
  obtain ⟨v,r,rfl,_,h2⟩:=h.uncons
  simp [cn.length h2]
theorem cn.get:∀ {ds:List D} {vs:List V} {i:Nat} {d:D},cn H ds vs → ds[i]? = some d → ∃ v,vs[i]? = some v ∧ cm H d v
 | [],_,_,_,_,e=>by simp at e
 | d :: ds,vs,0,d',h,e=>by
  obtain ⟨v,r,rfl,h1,_⟩:=h.uncons
  simp at e; subst e
  exact ⟨v,rfl,h1⟩
 | d :: ds,vs,i + 1,d',h,e=>by
  obtain ⟨v,r,rfl,_,h2⟩:=h.uncons
  obtain ⟨w,e1,e2⟩:=cn.get (i:=i) h2 (by simpa using e)
  exact ⟨w,by simpa using e1,e2⟩
mutual
theorem cm.inj {H:Hp}:∀ {d e:D} {v:V},cm H d v → cm H e v → d = e
 | .non,e,v,h,h'=>by
  rw [cm] at h; subst h
  cases e <;> simp [cm] at h' <;> rfl
 | .bl b,e,v,h,h'=>by
  rw [cm] at h; subst h
  cases e <;> simp [cm] at h'
  rw [h']
 | .int b,e,v,h,h'=>by
  rw [cm] at h; subst h
  cases e <;> simp [cm] at h'
  rw [h']
 | .str b,e,v,h,h'=>by
  rw [cm] at h; subst h
  cases e <;> simp [cm] at h'
  rw [h']
 | .tup ds,e,v,h,h'=>by
  rw [cm] at h
  obtain ⟨a,vs,rfl,ha,r⟩:=h
  cases e with
  | tup es =>
   rw [cm] at h'
   obtain ⟨a',vs',e1,ha',r'⟩:=h'
   cases e1
   rw [ha] at ha'; cases ha'
   rw [cn.inj r r']
  | lst es =>
   rw [cm] at h'
   obtain ⟨a',vs',e1,ha',r'⟩:=h'
   cases e1
   rw [ha] at ha'; cases ha'
  | _=>simp [cm] at h'
 | .lst ds,e,v,h,h'=>by
  rw [cm] at h
  obtain ⟨a,vs,rfl,ha,r⟩:=h
  cases e with
  | lst es =>
   rw [cm] at h'
   obtain ⟨a',vs',e1,ha',r'⟩:=h'
   cases e1
   rw [ha] at ha'; cases ha'
   rw [cn.inj r r']
  | tup es =>
   rw [cm] at h'
   obtain ⟨a',vs',e1,ha',r'⟩:=h'
   cases e1
   rw [ha] at ha'; cases ha'
  | _=>simp [cm] at h'
theorem cn.inj {H:Hp}:∀ {ds es:List D} {vs:List V},cn H ds vs → cn H es vs → ds = es
 | [],[],_,_,_=>rfl
 | [],e :: es,vs,h,h'=>by
  rw [h.unnil] at h'
  obtain ⟨_,_,e,_⟩:=h'.uncons
  cases e
 | d :: ds,[],vs,h,h'=>by
  rw [h'.unnil] at h
  obtain ⟨_,_,e,_⟩:=h.uncons
  cases e
 | d :: ds,e :: es,vs,h,h'=>by
  obtain ⟨v,r,e1,h1,h2⟩:=h.uncons
  obtain ⟨v',r',e2,h1',h2'⟩:=h'.uncons
  subst e1
  cases e2
  rw [cm.inj h1 h1',cn.inj h2 h2']
end
theorem cm.tup_of {ds:List D} {v:V} (h:cm H (.tup ds) v):∃ a vs,v = .ref a ∧ H a = some (.tup vs) ∧ cn H ds vs:=by rw [cm] at h; exact h
theorem cm.lst_of {ds:List D} {v:V} (h:cm H (.lst ds) v):∃ a vs,v = .ref a ∧ H a = some (.lst vs) ∧ cn H ds vs:=by rw [cm] at h; exact h
theorem cm.tup {H:Hp} {ds:List D} {a:Addr} {vs:List V} (h:H a = some (.tup vs)) (r:cn H ds vs):cm H (.tup ds) (.ref a):=by rw [cm]; exact ⟨a,vs,rfl,h,r⟩
theorem cm.lst {H:Hp} {ds:List D} {a:Addr} {vs:List V} (h:H a = some (.lst vs)) (r:cn H ds vs):cm H (.lst ds) (.ref a):=by rw [cm]; exact ⟨a,vs,rfl,h,r⟩
theorem cm.int {i:Int}:cm H (.int i) (.int i):=by rw [cm]
theorem cm.non:cm H .non .non:=by rw [cm]
theorem cm.bl {b:Bool}:cm H (.bl b) (.bl b):=by rw [cm]
theorem cm.str {x:Str}:cm H (.str x) (.str x):=by rw [cm]
theorem cm.int_of {i:Int} {v:V} (h:cm H (.int i) v):v = .int i:=by rw [cm] at h; exact h
theorem cm.non_of {v:V} (h:cm H .non v):v = .non:=by rw [cm] at h; exact h
theorem cm.bl_of {b:Bool} {v:V} (h:cm H (.bl b) v):v = .bl b:=by rw [cm] at h; exact h
theorem cm.str_of {b:Str} {v:V} (h:cm H (.str b) v):v = .str b:=by rw [cm] at h; exact h
mutual
def cj:D → D → Bool
 | .non,.non=>true
 | .bl a,.bl b=>a == b
 | .bl a,.int b=>(if a then 1 else 0) == b
 | .int a,.bl b=>a == (if b then 1 else 0)
 | .int a,.int b=>a == b
 | .str a,.str b=>a == b
 | .tup xs,.tup ys=>gZ xs ys
 | .lst xs,.lst ys=>gZ xs ys
 | _,_=>false
def gZ:List D → List D → Bool
 | [],[]=>true
 | x :: xs,y :: ys=>cj x y && gZ xs ys
 | _,_=>false
end
mutual
theorem oG:∀ d:D,cj d d = true
 | .non=>by simp [cj]
 | .bl _=>by simp [cj]
 | .int _=>by simp [cj]
 | .str _=>by simp [cj]
 | .tup xs=>by rw [cj]; exact lN xs
 | .lst xs=>by rw [cj]; exact lN xs
theorem lN:∀ xs:List D,gZ xs xs = true
 | []=>by simp [gZ]
 | x :: xs=>by rw [gZ,oG x,lN xs]; rfl
end
mutual
def nh:D → Nat
 | .tup xs=>jh xs + 1
 | .lst xs=>jh xs + 1
 | _=>0
def jh:List D → Nat
 | []=>0
 | x :: xs=>max (nh x) (jh xs)
end
theorem kH:∀ {xs:List D} {i:Nat} {d:D},xs[i]? = some d → nh d ≤ jh xs
 | [],_,_,e=>by simp at e
 | x :: xs,0,d,e=>by simp at e; subst e; rw [jh]; exact Nat.le_max_left _ _
 | x :: xs,i + 1,d,e=>by
  have:=kH (i:=i) (xs:=xs) (d:=d) (by simpa using e)
  rw [jh]
  exact Nat.le_trans this (Nat.le_max_right _ _)
theorem gA:∀ {xs ys:List D},xs.length ≠ ys.length → gZ xs ys = false
 | [],[],h=>absurd rfl h
 | [],y :: ys,_=>by simp [gZ]
 | x :: xs,[],_=>by simp [gZ]
 | x :: xs,y :: ys,h=>by
  rw [gZ,gA (xs:=xs) (ys:=ys) (fun e=>h (by simp [e]))]
  simp
theorem gB:∀ {xs ys:List D},xs.length = ys.length → gZ xs ys = (List.range xs.length).all fun i=>cj (xs.getD i .non) (ys.getD i .non)
 | [],[],_=>by simp [gZ]
 | [],y :: ys,h=>by simp at h
 | x :: xs,[],h=>by simp at h
 | x :: xs,y :: ys,h=>by
  rw [gZ,gB (xs:=xs) (ys:=ys) (by simpa using h),List.length_cons,List.range_succ_eq_map,List.all_cons,List.all_map]
  rfl

section
theorem bG {d e:D} {x y:V} {u v:Value} (hd:cm H d x) (he:cm H e y) (ru:aO x u) (rv:aO y v) (fx:eM x = true) (fy:eM y = true):SeqAt.EqAt A s u v (cj d e):=by
 have q:=Bz (A:=A) (s:=s) ru rv fx fy
 have e1:wO x y = cj d e:=by
  cases d <;> simp only [cm] at hd
  all_goals first | (subst hd) | (obtain ⟨_,_,hd,_⟩:=hd; rw [hd] at fx; cases fx)
  all_goals (cases e <;> simp only [cm] at he)
  all_goals first | (subst he; simp [wO,cj]) | (obtain ⟨_,_,he,_⟩:=he; rw [he] at fy; cases fy)
 rw [← e1]; exact q

theorem G6 (I:aG X pins σ H s):∀ (n:Nat) {A:Around} {d e:D} {x y:V} {u v:Value},nh d ≤ n → A.units + n < cLine → cm H d x → cm H e y → aO x u → aO y v → SeqAt.EqAt A s u v (cj d e):=by
 intro n
 induction n with
 | zero =>
  intro A d e x y u v hdp hu hd he ru rv
  cases d with
  | tup xs=>simp [nh] at hdp
  | lst xs=>simp [nh] at hdp
  | non =>
   cases e with
   | tup ys=>obtain ⟨b,ws,rfl,hb,_⟩:=he.tup_of; rw [hd.non_of] at ru; cases ru; cases rv; obtain ⟨_,_,p,_⟩:=I.tuple (fh.of hb); simp only [cj]; exact SeqAt.EqAt.none_tuple p (by omega)
   | lst ys=>obtain ⟨b,ws,rfl,hb,_⟩:=he.lst_of; rw [hd.non_of] at ru; cases ru; cases rv; obtain ⟨_,_,p,_⟩:=I.list (fu.of hb); simp only [cj]; exact SeqAt.EqAt.none_list p.isList (by omega)
   | non=>exact bG hd he ru rv (by rw [hd.non_of]; rfl) (by rw [he.non_of]; rfl)
   | bl _=>exact bG hd he ru rv (by rw [hd.non_of]; rfl) (by rw [he.bl_of]; rfl)
   | int _=>exact bG hd he ru rv (by rw [hd.non_of]; rfl) (by rw [he.int_of]; rfl)
   | str _=>exact bG hd he ru rv (by rw [hd.non_of]; rfl) (by rw [he.str_of]; rfl)
  | bl a =>
   cases e with
   | tup ys=>obtain ⟨b,ws,rfl,hb,_⟩:=he.tup_of; rw [hd.bl_of] at ru; cases ru; cases rv; obtain ⟨_,_,p,_⟩:=I.tuple (fh.of hb); simp only [cj]; exact SeqAt.EqAt.bool_tuple a p (by omega)
   | lst ys=>obtain ⟨b,ws,rfl,hb,_⟩:=he.lst_of; rw [hd.bl_of] at ru; cases ru; cases rv; obtain ⟨_,_,p,_⟩:=I.list (fu.of hb); simp only [cj]; exact SeqAt.EqAt.bool_list a p.isList (by omega)
   | non=>exact bG hd he ru rv (by rw [hd.bl_of]; rfl) (by rw [he.non_of]; rfl)
   | bl _=>exact bG hd he ru rv (by rw [hd.bl_of]; rfl) (by rw [he.bl_of]; rfl)
   | int _=>exact bG hd he ru rv (by rw [hd.bl_of]; rfl) (by rw [he.int_of]; rfl)
   | str _=>exact bG hd he ru rv (by rw [hd.bl_of]; rfl) (by rw [he.str_of]; rfl)
  | int a =>
   cases e with
   | tup ys=>obtain ⟨b,ws,rfl,hb,_⟩:=he.tup_of; rw [hd.int_of] at ru; obtain ⟨t,rfl⟩:=ru; cases rv; obtain ⟨_,_,p,_⟩:=I.tuple (fh.of hb); simp only [cj]; exact SeqAt.EqAt.int_tuple a t p (by omega)
   | lst ys=>obtain ⟨b,ws,rfl,hb,_⟩:=he.lst_of; rw [hd.int_of] at ru; obtain ⟨t,rfl⟩:=ru; cases rv; obtain ⟨_,_,p,_⟩:=I.list (fu.of hb); simp only [cj]; exact SeqAt.EqAt.int_list a t p.isList (by omega)
   | non=>exact bG hd he ru rv (by rw [hd.int_of]; rfl) (by rw [he.non_of]; rfl)
   | bl _=>exact bG hd he ru rv (by rw [hd.int_of]; rfl) (by rw [he.bl_of]; rfl)
   | int _=>exact bG hd he ru rv (by rw [hd.int_of]; rfl) (by rw [he.int_of]; rfl)
   | str _=>exact bG hd he ru rv (by rw [hd.int_of]; rfl) (by rw [he.str_of]; rfl)
  | str a =>
   cases e with
   | tup ys=>obtain ⟨b,ws,rfl,hb,_⟩:=he.tup_of; rw [hd.str_of] at ru; obtain ⟨t,rfl⟩:=ru; cases rv; obtain ⟨_,_,p,_⟩:=I.tuple (fh.of hb); simp only [cj]; exact SeqAt.EqAt.str_tuple a t p (by omega)
   | lst ys=>obtain ⟨b,ws,rfl,hb,_⟩:=he.lst_of; rw [hd.str_of] at ru; obtain ⟨t,rfl⟩:=ru; cases rv; obtain ⟨_,_,p,_⟩:=I.list (fu.of hb); simp only [cj]; exact SeqAt.EqAt.str_list a t p.isList (by omega)
   | non=>exact bG hd he ru rv (by rw [hd.str_of]; rfl) (by rw [he.non_of]; rfl)
   | bl _=>exact bG hd he ru rv (by rw [hd.str_of]; rfl) (by rw [he.bl_of]; rfl)
   | int _=>exact bG hd he ru rv (by rw [hd.str_of]; rfl) (by rw [he.int_of]; rfl)
   | str _=>exact bG hd he ru rv (by rw [hd.str_of]; rfl) (by rw [he.str_of]; rfl)
 | succ n ih =>
  intro A d e x y u v hdp hu hd he ru rv
  cases d with
  | tup xs =>
   obtain ⟨a,vs,rfl,ha,hr⟩:=hd.tup_of
   cases ru
   obtain ⟨its,rl,p,hz⟩:=I.tuple (fh.of ha)
   cases e with
   | tup ys =>
    obtain ⟨b,ws,rfl,hb,hr'⟩:=he.tup_of
    cases rv
    obtain ⟨its',rl',p',hz'⟩:=I.tuple (fh.of hb)
    by_cases hab:a = b
    ·subst hab
     rw [cm.inj hd he,oG]
     exact SeqAt.EqAt.same _
    ·refine SeqAt.EqAt.of_refs hab ?_
     have l1:its.toArray.size = xs.length:=by rw [List.size_toArray,← rl.length,hr.length]
     have l2:its'.toArray.size = ys.length:=by rw [List.size_toArray,← rl'.length,hr'.length]
     have q:=SeqAt.RcAt.tuples (A:=A) (s:=s) (e:=fun i=>cj (xs.getD i .non) (ys.getD i .non)) p p' (by omega) (fun j h1 h2=>?_)
     ·have e1:(((List.range (min its.toArray.size its'.toArray.size)).all fun i=>cj (xs.getD i .non) (ys.getD i .non)) && (its.toArray.size == its'.toArray.size)) = cj (.tup xs) (.tup ys):=by
       rw [l1,l2,cj]
       by_cases hl:xs.length = ys.length
       ·rw [gB hl,hl]; simp
       ·rw [gA hl]; simp [hl]
      rw [e1] at q
      exact q
     ·have j1:j < xs.length:=by rw [← l1]; exact h1
      have j2:j < ys.length:=by rw [← l2]; exact h2
      have g1:xs[j]? = some (xs.getD j .non):=by simp [List.getD,j1]
      have g2:ys[j]? = some (ys.getD j .non):=by simp [List.getD,j2]
      obtain ⟨w1,a1,b1⟩:=hr.get g1
      obtain ⟨w2,a2,b2⟩:=hr'.get g2
      obtain ⟨u1,c1,d1⟩:=rl.get a1
      obtain ⟨u2,c2,d2⟩:=rl'.get a2
      have k1:its.toArray[j] = u1:=by
       have:=(List.getElem?_eq_some_iff.mp c1).2
       simpa using this
      have k2:its'.toArray[j] = u2:=by
       have:=(List.getElem?_eq_some_iff.mp c2).2
       simpa using this
      rw [k1,k2]
      refine ih ?_ (by show A.units + 1 + n < cLine; omega) b1 b2 d1 d2
      have:=kH g1
      simp [nh] at hdp
      omega
   | lst ys=>obtain ⟨b,ws,rfl,hb,_⟩:=he.lst_of; cases rv; obtain ⟨_,_,p',_⟩:=I.list (fu.of hb); simp only [cj]; exact SeqAt.EqAt.tuple_list p p'.isList (by omega)
   | non=>rw [he.non_of] at rv; cases rv; simp only [cj]; exact SeqAt.EqAt.tuple_none p (by omega)
   | bl b=>rw [he.bl_of] at rv; cases rv; simp only [cj]; exact SeqAt.EqAt.tuple_bool b p (by omega)
   | int b=>rw [he.int_of] at rv; obtain ⟨t,rfl⟩:=rv; simp only [cj]; exact SeqAt.EqAt.tuple_int b t p (by omega)
   | str b=>rw [he.str_of] at rv; obtain ⟨t,rfl⟩:=rv; simp only [cj]; exact SeqAt.EqAt.tuple_str b t p (by omega)
  | lst xs =>
   obtain ⟨a,vs,rfl,ha,hr⟩:=hd.lst_of
   cases ru
   obtain ⟨its,rl,p,hz⟩:=I.list (fu.of ha)
   cases e with
   | lst ys =>
    obtain ⟨b,ws,rfl,hb,hr'⟩:=he.lst_of
    cases rv
    obtain ⟨its',rl',p',hz'⟩:=I.list (fu.of hb)
    by_cases hab:a = b
    ·subst hab
     rw [cm.inj hd he,oG]
     exact SeqAt.EqAt.same _
    ·refine SeqAt.EqAt.of_refs hab ?_
     have l1:its.toArray.size = xs.length:=by rw [List.size_toArray,← rl.length,hr.length]
     have l2:its'.toArray.size = ys.length:=by rw [List.size_toArray,← rl'.length,hr'.length]
     by_cases hl:xs.length = ys.length
     ·have q:=SeqAt.RcAt.lists (A:=A) (s:=s) (e:=fun i=>cj (xs.getD i .non) (ys.getD i .non)) p.isList p'.isList (by rw [l1,l2,hl]) (by omega) (fun j h1 h2=>?_)
      ·have e1:((List.range its.toArray.size).all fun i=>cj (xs.getD i .non) (ys.getD i .non)) = cj (.lst xs) (.lst ys):=by
        rw [l1,cj,gB hl]
       rw [e1] at q
       exact q
      ·have j1:j < xs.length:=by rw [← l1]; exact h1
       have j2:j < ys.length:=by rw [← l2]; exact h2
       have g1:xs[j]? = some (xs.getD j .non):=by simp [List.getD,j1]
       have g2:ys[j]? = some (ys.getD j .non):=by simp [List.getD,j2]
       obtain ⟨w1,a1,b1⟩:=hr.get g1
       obtain ⟨w2,a2,b2⟩:=hr'.get g2
       obtain ⟨u1,c1,d1⟩:=rl.get a1
       obtain ⟨u2,c2,d2⟩:=rl'.get a2
       have k1:its.toArray[j] = u1:=by
        have:=(List.getElem?_eq_some_iff.mp c1).2
        simpa using this
       have k2:its'.toArray[j] = u2:=by
        have:=(List.getElem?_eq_some_iff.mp c2).2
        simpa using this
       rw [k1,k2]
       refine ih ?_ (by show A.units + 1 + n < cLine; omega) b1 b2 d1 d2
       have:=kH g1
       simp [nh] at hdp
       omega
     ·rw [cj,gA hl]
      exact SeqAt.RcAt.lists_lengths p.isList p'.isList (by rw [l1,l2]; simpa using hl) (by omega)
   | tup ys=>obtain ⟨b,ws,rfl,hb,_⟩:=he.tup_of; cases rv; obtain ⟨_,_,p',_⟩:=I.tuple (fh.of hb); simp only [cj]; exact SeqAt.EqAt.list_tuple p.isList p' (by omega)
   | non=>rw [he.non_of] at rv; cases rv; simp only [cj]; exact SeqAt.EqAt.list_none p.isList (by omega)
   | bl b=>rw [he.bl_of] at rv; cases rv; simp only [cj]; exact SeqAt.EqAt.list_bool b p.isList (by omega)
   | int b=>rw [he.int_of] at rv; obtain ⟨t,rfl⟩:=rv; simp only [cj]; exact SeqAt.EqAt.list_int b t p.isList (by omega)
   | str b=>rw [he.str_of] at rv; obtain ⟨t,rfl⟩:=rv; simp only [cj]; exact SeqAt.EqAt.list_str b t p.isList (by omega)
  | non=>exact ih (by simp [nh]) (by omega) hd he ru rv
  | bl _=>exact ih (by simp [nh]) (by omega) hd he ru rv
  | int _=>exact ih (by simp [nh]) (by omega) hd he ru rv
  | str _=>exact ih (by simp [nh]) (by omega) hd he ru rv
end
def tJ:D → Bool
 | .tup _=>true
 | .lst _=>true
 | _=>false
def G7 (neg:Bool):R2:=fun x y H Q=>∃ d e,cm H d x ∧ cm H e y ∧ tJ d = true ∧ tJ e = true ∧ nh d ≤ 50 ∧ Q (.bl (if neg then !cj d e else cj d e)) H
section
theorem g5 (I:aG X pins σ H s) {xs ys:List D} {vs ws:List V} {its its':List Value} (hu:A.units + 52 < cLine) (hd:jh xs ≤ 50) (hr:cn H xs vs) (hr':cn H ys ws) (rl:aN vs its) (rl':aN ws its')
  (j:Nat) (h1:j < its.toArray.size) (h2:j < its'.toArray.size):SeqAt.EqAt A.in1 s its.toArray[j] its'.toArray[j] (cj (xs.getD j .non) (ys.getD j .non)):=by
 have l1:its.toArray.size = xs.length:=by rw [List.size_toArray,← rl.length,hr.length]
 have l2:its'.toArray.size = ys.length:=by rw [List.size_toArray,← rl'.length,hr'.length]
 have j1:j < xs.length:=by rw [← l1]; exact h1
 have j2:j < ys.length:=by rw [← l2]; exact h2
 have g1:xs[j]? = some (xs.getD j .non):=by simp [List.getD,j1]
 have g2:ys[j]? = some (ys.getD j .non):=by simp [List.getD,j2]
 obtain ⟨w1,a1,b1⟩:=hr.get g1
 obtain ⟨w2,a2,b2⟩:=hr'.get g2
 obtain ⟨u1,c1,d1⟩:=rl.get a1
 obtain ⟨u2,c2,d2⟩:=rl'.get a2
 have k1:its.toArray[j] = u1:=by
  have:=(List.getElem?_eq_some_iff.mp c1).2
  simpa using this
 have k2:its'.toArray[j] = u2:=by
  have:=(List.getElem?_eq_some_iff.mp c2).2
  simpa using this
 rw [k1,k2]
 exact G6 I 50 (Nat.le_trans (kH g1) hd) (by show A.units + 1 + 50 < cLine; omega) b1 b2 d1 d2
theorem vB {xs ys:List D} {n m:Nat} (l1:n = xs.length) (l2:m = ys.length) :
  (((List.range (min n m)).all fun i=>cj (xs.getD i .non) (ys.getD i .non)) && (n == m)) = gZ xs ys:=by
 subst l1 l2
 by_cases hl:xs.length = ys.length
 ·rw [gB hl,hl]; simp
 ·rw [gA hl]; simp [hl]
theorem G8 (hu:X.A.units + 52 < cLine):kh X (compareOp .Eq) (G7 false):=by
 intro pins s σ H x y v u Q I rx ry h
 obtain ⟨d,e,hd,he,fd,fe,hdp,q⟩:=h
 have fin:∀ {b:Bool},b = cj d e → EP X pins σ Q (.bool b) s:=fun {b} eb=>by subst eb; exact ⟨.bl _,H,I,rfl,q⟩
 cases d with
 | tup xs =>
  obtain ⟨a,vs,rfl,ha,hr⟩:=hd.tup_of
  cases rx
  obtain ⟨its,rl,p,hz⟩:=I.tuple (fh.of ha)
  have l1:its.toArray.size = xs.length:=by rw [List.size_toArray,← rl.length,hr.length]
  have hds:jh xs ≤ 50:=by simp [nh] at hdp; omega
  cases e with
  | tup ys =>
   obtain ⟨b,ws,rfl,hb,hr'⟩:=he.tup_of
   cases ry
   obtain ⟨its',rl',p',hz'⟩:=I.tuple (fh.of hb)
   have l2:its'.toArray.size = ys.length:=by rw [List.size_toArray,← rl'.length,hr'.length]
   exact SeqAt.RcAt.tuples p p' (by omega) (g5 I hu hds hr hr' rl rl') _ _ _ _ (fin (by rw [vB l1 l2,cj]))
  | lst ys =>
   obtain ⟨b,ws,rfl,hb,hr'⟩:=he.lst_of
   cases ry
   obtain ⟨its',rl',p',hz'⟩:=I.list (fu.of hb)
   exact SeqAt.RcAt.tuple_list p p'.isList (by omega) _ _ _ _ (fin (by simp [cj]))
  | _=>cases fe
 | lst xs =>
  obtain ⟨a,vs,rfl,ha,hr⟩:=hd.lst_of
  cases rx
  obtain ⟨its,rl,p,hz⟩:=I.list (fu.of ha)
  have l1:its.toArray.size = xs.length:=by rw [List.size_toArray,← rl.length,hr.length]
  have hds:jh xs ≤ 50:=by simp [nh] at hdp; omega
  cases e with
  | lst ys =>
   obtain ⟨b,ws,rfl,hb,hr'⟩:=he.lst_of
   cases ry
   obtain ⟨its',rl',p',hz'⟩:=I.list (fu.of hb)
   have l2:its'.toArray.size = ys.length:=by rw [List.size_toArray,← rl'.length,hr'.length]
   by_cases hl:xs.length = ys.length
   ·exact SeqAt.RcAt.lists p.isList p'.isList (by rw [l1,l2,hl]) (by omega) (g5 I hu hds hr hr' rl rl') _ _ _ _ (fin (by rw [l1,cj,gB hl]))
   ·exact SeqAt.RcAt.lists_lengths p.isList p'.isList (by rw [l1,l2]; simpa using hl) (by omega) _ _ _ _ (fin (by rw [cj,gA hl]))
  | tup ys =>
   obtain ⟨b,ws,rfl,hb,hr'⟩:=he.tup_of
   cases ry
   obtain ⟨its',rl',p',hz'⟩:=I.tuple (fh.of hb)
   exact SeqAt.RcAt.list_tuple p.isList p' (by omega) _ _ _ _ (fin (by simp [cj]))
  | _=>cases fe
 | _=>cases fd
theorem xi (hu:X.A.units + 52 < cLine):kh X (compareOp .NotEq) (G7 true):=by
 intro pins s σ H x y v u Q I rx ry h
 obtain ⟨d,e,hd,he,fd,fe,hdp,q⟩:=h
 have fin:∀ {b:Bool},b = (!cj d e) → EP X pins σ Q (.bool b) s:=fun {b} eb=>by subst eb; exact ⟨.bl _,H,I,rfl,q⟩
 cases d with
 | tup xs =>
  obtain ⟨a,vs,rfl,ha,hr⟩:=hd.tup_of
  cases rx
  obtain ⟨its,rl,p,hz⟩:=I.tuple (fh.of ha)
  have l1:its.toArray.size = xs.length:=by rw [List.size_toArray,← rl.length,hr.length]
  have hds:jh xs ≤ 50:=by simp [nh] at hdp; omega
  cases e with
  | tup ys =>
   obtain ⟨b,ws,rfl,hb,hr'⟩:=he.tup_of
   cases ry
   obtain ⟨its',rl',p',hz'⟩:=I.tuple (fh.of hb)
   have l2:its'.toArray.size = ys.length:=by rw [List.size_toArray,← rl'.length,hr'.length]
   exact SeqAt.RcNeAt.tuples p p' (by omega) (g5 I hu hds hr hr' rl rl') _ _ _ _ (fin (by rw [vB l1 l2,cj]))
  | lst ys =>
   obtain ⟨b,ws,rfl,hb,hr'⟩:=he.lst_of
   cases ry
   obtain ⟨its',rl',p',hz'⟩:=I.list (fu.of hb)
   exact SeqAt.RcNeAt.tuple_list p p'.isList (by omega) _ _ _ _ (fin (by simp [cj]))
  | _=>cases fe
 | lst xs =>
  obtain ⟨a,vs,rfl,ha,hr⟩:=hd.lst_of
  cases rx
  obtain ⟨its,rl,p,hz⟩:=I.list (fu.of ha)
  have l1:its.toArray.size = xs.length:=by rw [List.size_toArray,← rl.length,hr.length]
  have hds:jh xs ≤ 50:=by simp [nh] at hdp; omega
  cases e with
  | lst ys =>
   obtain ⟨b,ws,rfl,hb,hr'⟩:=he.lst_of
   cases ry
   obtain ⟨its',rl',p',hz'⟩:=I.list (fu.of hb)
   have l2:its'.toArray.size = ys.length:=by rw [List.size_toArray,← rl'.length,hr'.length]
   by_cases hl:xs.length = ys.length
   ·exact SeqAt.RcNeAt.lists p.isList p'.isList (by rw [l1,l2,hl]) (by omega) (g5 I hu hds hr hr' rl rl') _ _ _ _ (fin (by rw [l1,cj,gB hl]))
   ·exact SeqAt.RcNeAt.lists_lengths p.isList p'.isList (by rw [l1,l2]; simpa using hl) (by omega) _ _ _ _ (fin (by rw [cj,gA hl]; rfl))
  | tup ys =>
   obtain ⟨b,ws,rfl,hb,hr'⟩:=he.tup_of
   cases ry
   obtain ⟨its',rl',p',hz'⟩:=I.tuple (fh.of hb)
   exact SeqAt.RcNeAt.list_tuple p.isList p' (by omega) _ _ _ _ (fin (by simp [cj]))
  | _=>cases fe
 | _=>cases fd

def EA (H:Hp):V → Option String
 | .non=>some "NoneType"
 | .bl _=>some "bool"
 | .int _=>some "int"
 | .str _=>some "str"
 | .ref a=>match H a with
  | some (.lst _)=>some "list"
  | some (.tup _)=>some "tuple"
  | some (.dK _)=>some "dict"
  | some (.dT _)=>some "dict"
  | _=>none
 | _=>none
theorem G9 {x:V} {n:String} (h:EA H x = some n):lM K H x (.type n):=by
 cases x with
 | non=>cases h; exact .non
 | bl b=>cases h; exact .bl b
 | int i=>cases h; exact .int i
 | str z=>cases h; exact .str z
 | ref a =>
  unfold EA at h
  cases e:H a with
  | none=>simp [e] at h
  | some o =>
   cases o <;> simp [e] at h
   ·subst h; exact .lst e
   ·subst h; exact .tup e
   ·subst h; exact .dK e
   ·subst h; exact .dT e
 | _=>cases h
def BQ:String → String → Option Bool
 | "int","bool"=>some false | "int","int"=>some true | "int","tuple"=>some false | "int","str"=>some false
 | "bool","bool"=>some true | "bool","int"=>some true | "bool","tuple"=>some false | "bool","str"=>some false
 | "str","bool"=>some false | "str","int"=>some false | "str","tuple"=>some false | "str","str"=>some true
 | "tuple","bool"=>some false | "tuple","int"=>some false | "tuple","tuple"=>some true | "tuple","str"=>some false
 | "list","bool"=>some false | "list","int"=>some false | "list","tuple"=>some false | "list","str"=>some false
 | "NoneType","bool"=>some false | "NoneType","int"=>some false | "NoneType","tuple"=>some false | "NoneType","str"=>some false
 | _,_=>none
theorem BR {n c:String} {b:Bool} (h:BQ n c = some b):PySem.W.kitOne K (.type n) (.type c) = some b:=by
 unfold BQ at h
 split at h <;> first | (cases h; rfl) | cases h
def BU:List V → Hp → VK → Prop:=fun xs H Q=>match xs with
 | [x,.ty c]=>(match EA H x with
  | some n=>(match BQ n c with
   | some b=>Q (.bl b) H
   | none=>False)
  | none=>False)
 | _=>False
theorem EB {Q:VK} (h:BU xs H Q):∃ x n c b,xs = [x,.ty c] ∧ EA H x = some n ∧ BQ n c = some b ∧ Q (.bl b) H:=by
 unfold BU at h
 split at h
 ·split at h
  ·split at h
   ·exact ⟨_,_,_,_,rfl,‹_›,‹_›,h⟩
   ·exact h.elim
  ·exact h.elim
 ·exact h.elim
theorem BV:dy X (.builtin "isinstance") BU:=by
 intro pins s σ H xs us Q I r h
 obtain ⟨x,n,c,b,rfl,ht,hk,q⟩:=EB h
 obtain ⟨u,w',rfl,ru,rw'⟩:=Bp r
 cases rw'
 exact zO I ru (G9 ht) (BR hk) fun tk=>⟨.bl b,H,I.tok tk,rfl,q⟩

def Jj (K:PySem.W.Frag):V → Option Int → Option Int → Hp → VK → Prop:=fun x lo hi H Q=>∃ a xs,x = .ref a ∧ fh K H a xs ∧ HT.sIx xs.length 0 lo = 0 ∧ HT.sIx xs.length xs.length hi = xs.length ∧ Q (.ref a) H
theorem ji {t sl:Addr} {items:Array Value} {vl vu:Value} {lo hi:Option Int} {Q:Value → Shared → Prop} (ht:IsTup s.heap t items) (hs:s.heap.IsSliceOf sl vl vu .none) (pl:IsPart vl lo) (pu:IsPart vu hi)
  (h1:HT.sIx items.size 0 lo = 0) (h2:HT.sIx items.size items.size hi = items.size) (h:Q (.ref t) s):wpAny (model prog w) A (getItem (.ref t) (.ref sl)) Q E s:=by
 obtain ⟨os,hos,hcs,hds⟩:=id hs
 have hTs:s.TypeIs (.ref sl) "slice":=⟨os,hos,hcs⟩
 unfold getItem
 refine wpAny_holding (wpAny_bind (wpAny_sequenceKey ht.typeIs (by decide) ?_))
 refine wpAny_bind (wpAny_callSpecial?_slot (name:=Str.ofString "__getitem__") ht.typeIs PyProof.Rows.slot_tuple_getitem (wpAny_call_entry PyProof.Rows.slot_tuple_getitem ht.typeIs entry_tuple_getitem ?_ (args_tuple_getitem _ _)))
 show wpAny _ _ (Builtin.Tuple.tupleItemsOf (.ref t) >>= _) _ _ s
 refine wpAny_bind (tupleItemsOf_ ht (wpAny_bind (wpAny_typeOf hTs ?_)))
 rw [if_pos (by decide)]
 refine wpAny_bind (HT.sliceApplied_gen hs pl pu ?_)
 rw [h1,h2]
 show wpAny _ _ (if ((((0:Nat):Int) == 0 && (1:Int) == 1 && (items.size - 0) == items.size) = true) then _ else _) _ _ s
 rw [if_pos (by simp)]
 refine wpAny_bind (wpAny_bind (wpAny_typeOf ht.typeIs (wpAny_pure ?_)))
 rw [if_pos (by decide)]
 exact wpAny_bind (wpAny_rule (wpAny_pure ⟨_,rfl,wpAny_pure h⟩))
theorem EC:Ir X (Jj X.K):=by
 intro pins s σ H x v vl vu lo hi sl Q I rx hs pl pu h
 obtain ⟨a,xs,rfl,hx,h1,h2,q⟩:=h
 cases rx
 obtain ⟨its,r,ht,hz⟩:=I.tuple hx
 have hlen:its.toArray.size = xs.length:=by rw [List.size_toArray]; exact r.length.symm
 exact ⟨"tuple",_,PyProof.Rows.slot_tuple_getitem.lookup,ht.typeIs,ji ht hs pl pu (by rw [hlen]; exact h1) (by rw [hlen]; exact h2) ⟨.ref a,H,I,rfl,q⟩⟩
def Kt:V → Option Int → Option Int → Hp → VK → Prop:=fun x lo hi H Q=>∃ a xs,x = .ref a ∧ H a = some (.tup xs) ∧ (∀ p,H p = none → Q (.ref p) (upd H p (.tup (jK xs lo hi)))) ∧ (jK xs lo hi = xs → Q (.ref a) H)
theorem ED:Ir X Kt:=by
 intro pins s σ H x v vl vu lo hi sl Q I rx hs pl pu h
 obtain ⟨a,xs,rfl,hx,q1,q2⟩:=h
 by_cases hw:HT.sIx xs.length 0 lo = 0 ∧ HT.sIx xs.length xs.length hi = xs.length
 ·refine EC pins s σ H _ v vl vu lo hi sl Q I rx hs pl pu ⟨a,xs,rfl,fh.of hx,hw.1,hw.2,q2 ?_⟩
  unfold jK
  rw [hw.1,hw.2]
  simp
 ·exact GT pins s σ H _ v vl vu lo hi sl Q I rx hs pl pu ⟨a,xs,rfl,fh.of hx,hw,q1⟩

def Jk:R2:=fun x y H Q=>∃ a b xs ys,x = .ref a ∧ y = .ref b ∧ H a = some (.tup xs) ∧ H b = some (.tup ys) ∧ xs.length + ys.length ≤ sizeLine ∧ (xs = [] → Q (.ref b) H) ∧ (ys = [] → Q (.ref a) H) ∧ (∀ p,H p = none → Q (.ref p) (upd H p (.tup (xs ++ ys))))
theorem EE:kh X (binaryOp .Add) Jk:=by
 intro pins s σ H x y v u Q I rx ry h
 obtain ⟨a,b,xs,ys,rfl,rfl,ha,hb,hz,q0,q1,q2⟩:=h
 by_cases hx:xs = []
 ·cases rx
  cases ry
  obtain ⟨its,r,ht,_⟩:=I.tuple (fh.of ha)
  obtain ⟨its',r',ht',_⟩:=I.tuple (fh.of hb)
  obtain ⟨⟨cls,dd,data,sl⟩,ho,hc,n,hd⟩:=id ht
  obtain ⟨⟨cls2,dd2,data2,sl2⟩,ho2,hc2,n2,hd2⟩:=id ht'
  simp only at hc hd hc2 hd2
  subst hc hd hc2 hd2
  have e0:its = []:=r.nil_iff.mpr hx
  exact concat_meets ⟨_,ho,rfl⟩ ⟨_,ho2,rfl⟩ noFill_tuple_add seq_tuple_add PySem.F.slot_tuple_add PySem.F.entry_tuple_add (PySem.F.args_tuple_add_2 _ _)
   (tuple_addW0 a b its.toArray its'.toArray n n2 dd dd2 sl sl2 (by rw [e0]; rfl)) ⟨ho,ho2,⟨.ref b,H,I,rfl,q0 hx⟩⟩
 ·exact Er pins s σ H _ _ v u Q I rx ry ⟨a,b,xs,ys,rfl,rfl,fh.of ha,fh.of hb,hx,hz,q1,fun _=>q2⟩
end
namespace Zp
section
end
end Zp
end L2
namespace L2
open PySem PySem.Spec PyProof.Rows
section
end
theorem bH:bootBuiltins "tuple" = some (.type "tuple"):=by decide +kernel
theorem oH:bootBuiltins "list" = some (.type "list"):=by decide +kernel
theorem zW:bootBuiltins "int" = some (.type "int"):=by decide +kernel
theorem oI:bootBuiltins "bool" = some (.type "bool"):=by decide +kernel
theorem lO:bootBuiltins "isinstance" = some (.builtin "isinstance"):=by decide +kernel
theorem zX:bootBuiltins "min" = some (.builtin "min"):=by decide +kernel
theorem lP:bootBuiltins "max" = some (.builtin "max"):=by decide +kernel
theorem cw:bootBuiltins "sorted" = some (.builtin "sorted"):=by decide +kernel
theorem zY:bootBuiltins "set" = some (.type "set"):=by decide +kernel
structure Mods (mg:Str → Option Value):Prop where
 len:mg "len" = none
 isinstance:mg "isinstance" = none
 int:mg "int" = none
 bool:mg "bool" = none
 tuple:mg "tuple" = none
 list:mg "list" = none
 range:mg "range" = none
 zip:mg "zip" = none
 min:mg "min" = none
 max:mg "max" = none
 sorted:mg "sorted" = none
 set:mg "set" = none
def cY (K:PySem.W.Frag) (mg:Str → Option Value) (x:Str) (st:Stmt):Prop:=∃ f fd,Fun K x x st f fd ∧ mg x = some (.ref f)
def Ha (P:Program) (w:World) (K:PySem.W.Frag) (mg:Str → Option Value) (base:Heap) (x:Str) (k:Nat) (ps:List Str) (sp:Sp):Prop :=
 ∃ f fd,db P w K mg base fT k f fd ps sp ∧ mg x = some (.ref f) ∧ PySem.W.keepIn K (.ref f) = true ∧ dH K fd ps []
section
variable {x:Str} {k:Nat} {ps:List Str} {sp:Sp} {p pos:Pos} {e:Expr} {t:TA}
theorem Hb (c:Ha X.prog X.w X.K X.mg X.base x k ps sp) (hr:bQ k X.A) (ha:PA X (e :: es) t) (hg:Gl X x:=by with_unfolding_all rfl) (hdb:(x == ("__debug__":Str)) = false:=by decide)
  (he:starEach (e :: es) X.env = (false,eval e X.env) :: starEach es X.env:=by with_unfolding_all rfl) (hpl:(backTo pos (starEach es X.env)).any (·.1) = false:=by with_unfolding_all rfl):PE X (.Call (.Name x p) (e :: es) [] pos) (mz sp [] E0 t):=by
 obtain ⟨f,fd,F,hm,hk,hb⟩:=c
 exact yp F hr hg hm hk hb .nil FY ha hdb he hpl
theorem EF (c:Ha X.prog X.w X.K X.mg X.base x k ps sp) (hr:bQ k X.A) (hg:Gl X x:=by with_unfolding_all rfl) (hdb:(x == ("__debug__":Str)) = false:=by decide):PE X (.Call (.Name x p) [] [] pos) (mz sp [] E0 oo):=by
 obtain ⟨f,fd,F,hm,hk,hb⟩:=c
 exact Bs F hr hg hm hk hb .nil FY hdb
end
section
theorem cY.ok {x:Str} {N ps:List Str} {k:Nat} {sp:Sp} (d:cY K mg x st) (S:al N ps (ag st)) (len:∀ vs H Q E,sp vs H Q E → vs.length = ps.length)
  (hb:∀ (kV doc pm:Value) (an:Option Addr) (cdv ct:Value) (us:List Value),us.length = ps.length → bindArgs (PySem.W.fnOf x x (bV st) (bd st) (ag st) .none kV doc pm an cdv ct) ⟨us,[]⟩ = pure (ps.zip us))
  (hbody:∀ (f:Addr) (cdv:Value) (A:Around) (outer:List Env) (s:Shared) (H:Hp) (vs:List V) (Q:VK) (E:XK),bQ k (A.deeper (envOfC x (ag st) s.heap.objs.size f cdv)) → sp vs H Q E →
   ∃ t,iz (m8 fT P w K mg base N x (ag st) f cdv A outer s H E).nox (bd st) t ∧ t { nx:=fun _ H'=>Q .non H',rt:=Q } (ii N vs) H):Ha P w K mg base x (k + 1) ps sp:=by
 obtain ⟨f,fd,F,hm⟩:=d
 exact ⟨f,fd,F.ok S len (hbody f),hm,F.kp,F.binds hb⟩
end
theorem EG {k:Nat} (hr:bQ k A):A.units + 52 < cLine:=Nat.lt_of_le_of_lt (Nat.add_le_add_left (by decide:52 ≤ 64) _) hr.units
def fX (H:Hp):V → Option (List V)
 | .ref a=>match H a with
  | some (.lst xs)=>some xs
  | some (.tup xs)=>some xs
  | some (.frz _ (.lst xs))=>some xs
  | _=>none
 | _=>none
def gC (H:Hp):V → Option (List V)
 | .ref a=>match H a with
  | some (.tup xs)=>some xs
  | _=>none
 | _=>none
def on {α:Type} (o:Option α) (P:α → Prop):Prop:=match o with
 | some x=>P x
 | none=>False
theorem dz {α:Type} {o:Option α} {P:α → Prop} (h:on o P):∃ x,o = some x ∧ P x:=by
 cases o with
 | none=>exact h.elim
 | some x=>exact ⟨x,rfl,h⟩
theorem bW {α:Type} {x:α} {P:α → Prop}:on (some x) P = P x:=rfl
theorem kJ {v:V} (h:gC H v = some xs):∃ a,v = .ref a ∧ H a = some (.tup xs) ∧ fh K H a xs:=by
 cases v with
 | ref a =>
  simp only [gC] at h
  split at h
  ·cases h; exact ⟨a,rfl,‹_›,fh.of ‹_›⟩
  ·cases h
 | _=>cases h
theorem kK {v:V} (h:fX H v = some xs):∃ a,v = .ref a ∧ (fu K H a xs ∨ fh K H a xs):=by
 cases v with
 | ref a =>
  simp only [fX] at h
  split at h
  ·cases h; exact ⟨a,rfl,.inl (.inl (.inl ‹_›))⟩
  ·cases h; exact ⟨a,rfl,.inr (fh.of ‹_›)⟩
  ·cases h; exact ⟨a,rfl,.inl (.inl (.inr ⟨_,‹_›⟩))⟩
  ·cases h
 | _=>cases h
theorem zZ {a:Addr} (h:H a = some (.lst xs)):fX H (.ref a) = some xs:=by simp [fX,h]
theorem z4 {a:Addr} (h:H a = some (.tup xs)):fX H (.ref a) = some xs:=by simp [fX,h]
theorem gE {a:Addr} (h:H a = some (.tup xs)):gC H (.ref a) = some xs:=by simp [gC,h]
section
def yH:List V → Hp → VK → Prop:=fun xs H Q=>match xs with
 | [x]=>on (fX H x) fun ys=>Q (.int ys.length) H
 | _=>False
theorem d8:dy X (.builtin "len") yH:=by
 intro pins s σ H xs us Q I r h
 unfold yH at h
 split at h
 ·obtain ⟨ys,e,q⟩:=dz h
  obtain ⟨a,rfl,hs⟩:=kK (K:=X.K) e
  exact kn pins s σ H _ us Q I r ⟨a,ys,rfl,hs,q⟩
 ·exact h.elim
def Hc:R2:=fun x y H Q=>match y with
 | .int i=>on (fX H x) fun xs=>on (D7 xs i) fun v=>Q v H
 | _=>False
theorem Ku:JU X Hc:=by
 intro ve se pins s σ H x y v u Q I rx ry h hsub
 unfold Hc at h
 split at h
 ·obtain ⟨xs,e,h⟩:=dz h
  obtain ⟨w',e',q⟩:=dz h
  obtain ⟨a,rfl,hs⟩:=kK (K:=X.K) e
  rcases hs with hs | hs
  ·exact yB ve se pins s σ H _ _ v u Q I rx ry ⟨a,xs,_,w',rfl,rfl,hs,e',q⟩ hsub
  ·exact GU ve se pins s σ H _ _ v u Q I rx ry ⟨a,xs,_,w',rfl,rfl,hs,e',q⟩ hsub
 ·exact h.elim
def Jl (t:Bf) (n:Nat):TG:=fun v σ H Q=>on (gC H v) fun xs=>xs.length = n ∧ t xs σ H Q
theorem EH {k:Nat} {t:Bf} {n:Nat} (hc:X.calm = true) (h:yj X es t)
  (hn:(assignEach es X.env).length = n:=by with_unfolding_all rfl) (hst:(assignEach es X.env).findIdx? (·.1) = none:=by with_unfolding_all rfl):PG X (.Tuple es k pos) (Jl t n):=by
 intro pins s σ H v u Q I r hw
 obtain ⟨xs,e,hl,q⟩:=dz hw
 obtain ⟨a,rfl,_,hs⟩:=kJ (K:=X.K) e
 exact GG hc h hn hst pins s σ H _ u Q I r ⟨a,xs,rfl,hs,hl,q⟩
def EI (neg:Bool):R2:=fun x y H Q=>on (fX H y) fun xs=>eM x = true ∧ xs.all eM = true ∧ Q (.bl (if neg then !D8 x xs else D8 x xs)) H
theorem BW:kh X (compareOp .In) (EI false):=by
 intro pins s σ H x y v u Q I rx ry h
 obtain ⟨xs,e,h1,h2,q⟩:=dz h
 obtain ⟨a,rfl,hs⟩:=kK (K:=X.K) e
 exact zQ pins s σ H _ _ v u Q I rx ry ⟨a,xs,rfl,hs,h1,h2,q⟩
theorem rY:kh X (compareOp .NotIn) (EI true):=by
 intro pins s σ H x y v u Q I rx ry h
 obtain ⟨xs,e,h1,h2,q⟩:=dz h
 obtain ⟨a,rfl,hs⟩:=kK (K:=X.K) e
 exact km pins s σ H _ _ v u Q I rx ry ⟨a,xs,rfl,hs,h1,h2,q⟩
def nM:List V → Hp → VK → Prop:=fun xs H Q=>match xs with
 | [x]=>on (fX H x) fun ys=>(∀ l,H l = none → Q (.ref l) (upd H l (.tup ys))) ∧ (gC H x = some ys → Q x H)
 | _=>False
theorem bS:dy X (.type "tuple") nM:=by
 intro pins s σ H xs us Q I r h
 unfold nM at h
 split at h
 ·rename_i x
  obtain ⟨ys,e,h1,h2⟩:=dz h
  cases x with
  | ref a =>
   simp only [fX] at e
   split at e
   ·cases e; exact gh pins s σ H _ us Q I r ⟨a,_,rfl,.inl ⟨.inl (.inl ‹_›),h1⟩⟩
   ·cases e; exact gh pins s σ H _ us Q I r ⟨a,_,rfl,.inr ⟨fh.of ‹_›,h2 (gE ‹_›)⟩⟩
   ·cases e; exact gh pins s σ H _ us Q I r ⟨a,_,rfl,.inl ⟨.inl (.inr ⟨_,‹_›⟩),h1⟩⟩
   ·cases e
  | _=>cases e
 ·exact h.elim
def FZ:V → Option Int → Option Int → Hp → VK → Prop:=fun x lo hi H Q=>on (gC H x) fun xs=>(∀ p,H p = none → Q (.ref p) (upd H p (.tup (jK xs lo hi)))) ∧ (jK xs lo hi = xs → Q x H)
theorem yI:Ir X FZ:=by
 intro pins s σ H x v vl vu lo hi sl Q I rx hs pl pu h
 obtain ⟨xs,e,q1,q2⟩:=dz h
 obtain ⟨a,rfl,ha,_⟩:=kJ (K:=X.K) e
 exact ED pins s σ H _ v vl vu lo hi sl Q I rx hs pl pu ⟨a,xs,rfl,ha,q1,q2⟩
def oJ:V → List V → Hp → VK → Prop:=fun x vs H Q=>match x,vs with
 | .ref l,[y]=>(match H l with
  | some (.lst xs)=>xs.length < sizeLine ∧ Q .non (upd H l (.lst (xs ++ [y])))
  | _=>False)
 | _,_=>False
theorem dq:Km X "list.append" oJ:=by
 intro pins s σ H x vs v us Q I rx rv h
 unfold oJ at h
 split at h
 ·split at h
  ·exact zR pins s σ H _ _ v us Q I rx rv ⟨_,_,_,rfl,rfl,‹_›,h.1,h.2⟩
  ·exact h.elim
 ·exact h.elim
def BX:R2:=fun x y H Q=>match x,y with
 | .ref l,.ref b=>(match H l,H b with
  | some (.lst xs),some (.lst zs)=>xs.length + zs.length ≤ sizeLine ∧ ∀ p,H p = none → Q (.ref p) (upd H p (.lst (xs ++ zs)))
  | _,_=>False)
 | _,_=>False
theorem nN:kh X (binaryOp .Add) BX:=by
 intro pins s σ H x y v u Q I rx ry h
 unfold BX at h
 split at h
 ·split at h
  ·exact GW pins s σ H _ _ v u Q I rx ry ⟨_,_,_,_,rfl,rfl,‹_›,‹_›,h.1,h.2⟩
  ·exact h.elim
 ·exact h.elim
def xj:R2:=fun x y H Q=>on (gC H x) fun xs=>on (gC H y) fun ys=>xs.length + ys.length ≤ sizeLine ∧ (xs = [] → Q y H) ∧ (ys = [] → Q x H) ∧ ∀ p,H p = none → Q (.ref p) (upd H p (.tup (xs ++ ys)))
theorem dI:kh X (binaryOp .Add) xj:=by
 intro pins s σ H x y v u Q I rx ry h
 obtain ⟨xs,e,h⟩:=dz h
 obtain ⟨ys,e',h1,h2,h3,h4⟩:=dz h
 obtain ⟨a,rfl,ha,_⟩:=kJ (K:=X.K) e
 obtain ⟨b,rfl,hb,_⟩:=kJ (K:=X.K) e'
 exact EE pins s σ H _ _ v u Q I rx ry ⟨a,b,xs,ys,rfl,rfl,ha,hb,h1,h2,h3,h4⟩
def qy:V → Option bj
 | .int i=>some (.inl i)
 | .str x=>some (.inr x)
 | _=>none
theorem tL {y:V} {k:bj} (h:qy y = some k):y = kV k:=by
 cases y <;> cases h <;> rfl
def gF (H:Hp):V → Option (List (bj × V))
 | .ref a=>match H a with
  | some (.dK kvs)=>some kvs
  | _=>none
 | _=>none
theorem kM {v:V} {kvs:List (bj × V)} (h:gF H v = some kvs):∃ a,v = .ref a ∧ H a = some (.dK kvs):=by
 cases v with
 | ref a =>
  simp only [gF] at h
  split at h
  ·cases h; exact ⟨a,rfl,‹_›⟩
  ·cases h
 | _=>cases h
theorem cK {a:Addr} {kvs:List (bj × V)} (h:H a = some (.dK kvs)):gF H (.ref a) = some kvs:=by simp [gF,h]
def BY (td ty:TE):TE:=fun σ H Q=>td σ H fun x H1=>ty σ H1 fun y H2=>on (gF H2 x) fun kvs=>on (qy y) fun k=>on (cX kvs k) fun v=>Q v H2
theorem iM {o i:Expr} {td ty:TE} (hu:X.A.units + 1 < cLine) (ho:PE X o td) (hi:PE X i ty) (hs:BC i):PE X (.Subscript o i pos) (BY td ty):=by
 intro pins s σ H Q I h
 refine tG PySem.F.slot_dict_getitem.lookup hs (bw (ho pins s σ H _ I h) fun u s1 ⟨x,H1,I1,rx,q1⟩=>bw (hi pins s1 σ H1 _ I1 q1) fun iv s2 ⟨y,H2,I2,ry,q2⟩=>?_)
 obtain ⟨kvs,e,q3⟩:=dz q2
 obtain ⟨k,ek,q4⟩:=dz q3
 obtain ⟨v,ev,q5⟩:=dz q4
 obtain ⟨a,rfl,ha⟩:=kM e
 have ey:=tL ek
 subst ey
 obtain rfl:u = Value.ref a:=rx
 have g:gY H2 a (kV k) (some v):=by rw [← ev]; exact gY.k ha
 exact ⟨mE I2 g,rV hu I2 g ry fun w' s3 I3 rw'=>⟨v,H2,I3,rw',q5⟩⟩
def BZ (td ty tv:TE):TS:=fun Dd σ H=>tv σ H fun v H1=>td σ H1 fun x H2=>ty σ H2 fun y H3=>match x with
 | .ref a=>on (gF H3 x) fun kvs=>on (qy y) fun k=>kvs.length < sizeLine ∧ Dd.nx σ (upd H3 a (.dK (cR kvs k v)))
 | _=>False
theorem vC {o i value:Expr} {td ty tv:TE} {pos pos':Pos} (hu:X.A.units + 1 < cLine) (ho:PE X o td) (hi:PE X i ty) (hv:PE X value tv) (hs:swapsWith value (some (.Subscript o i pos')) pos.line X.env = pure false) :
  PS X (.Assign [.Subscript o i pos'] value pos) (BZ td ty tv):=by
 intro pins s σ H Dd I h
 refine wpAny_Assign_Subscript (bw (hv pins s σ H _ I h) fun r s1 ⟨v,H1,I1,rv,q1⟩=>bw (ho pins s1 σ H1 _ I1 q1) fun u s2 ⟨x,H2,I2,rx,q2⟩=>bw (hi pins s2 σ H2 _ I2 q2) fun iv s3 ⟨y,H3,I3,ry,q3⟩=>?_) hs
 cases x with
 | ref a =>
  obtain ⟨kvs,e,q4⟩:=dz q3
  obtain ⟨k,ek,hl,q5⟩:=dz q4
  obtain ⟨a',ea,ha⟩:=kM e
  cases ea
  have ey:=tL ek
  subst ey
  obtain rfl:u = Value.ref a:=rx
  exact rW hu I3 (qt.k ha hl) ry rv fun s4 I4=>⟨σ,_,I4,q5⟩
 | _=>exact q3.elim
def yJ (td ty tx:TE):TE:=fun σ H Q=>td σ H fun x H1=>on (gF H1 x) fun _=>ty σ H1 fun y H2=>tx σ H2 fun z H3=>on (gF H3 x) fun kvs=>on (qy y) fun k=>Q ((cX kvs k).getD z) H3
theorem z5 {o e f:Expr} {td ty tx:TE} {apos cpos:Pos} (hu:X.A.units + 1 < cLine) (ho:PE X o td) (he:PE X e ty) (hf:PE X f tx) (m:M2 X o "get" apos e f cpos):PE X (.Call (.Attribute o "get" apos) [e,f] [] cpos) (yJ td ty tx):=by
 intro pins s σ H Q I h
 refine wpAny_Call_method m.base m.few m.line PySem.F.plainAttrs_dict PySem.F.slot_dict_get PySem.F.type_dict_get (bw (ho pins s σ H _ I h) fun u s1 ⟨x,H1,I1,rx,q1⟩=>?_)
 obtain ⟨kvs,e1,q1⟩:=dz q1
 obtain ⟨a,rfl,ha⟩:=kM e1
 obtain rfl:u = Value.ref a:=rx
 obtain ⟨t1,t2,_⟩:=xg I1 (.inl ⟨kvs,.inl ha⟩)
 refine ⟨t1,t2,?_⟩
 rw [m.trees]
 refine Calls.callWith_builtin rfl (Calls.evalArgs_plain (Calls.spliced_cons (bw (he pins s1 σ H1 _ I1 q1) fun iv s2 ⟨y,H2,I2,ry,q2⟩=>Calls.spliced_cons (bw (hf pins s2 σ H2 _ I2 q2) fun fv s3 ⟨z,H3,I3,rz,q3⟩=>Calls.spliced_nil ?_))))
 obtain ⟨kvs',e2,q4⟩:=dz q3
 obtain ⟨k,ek,q5⟩:=dz q4
 obtain ⟨a',ea,ha'⟩:=kM e2
 cases ea
 have ey:=tL ek
 subst ey
 exact BK hu I3 (gY.k ha') ry rz fun w' s4 I4 rw'=>⟨_,H3,I4,rw',q5⟩
def qA (H:Hp):V → Option Bool
 | .non=>some false
 | .bl b=>some b
 | .int i=>some (i != 0)
 | .ref a=>match H a with
  | some (.lst xs)=>some !xs.isEmpty
  | some (.tup xs)=>some !xs.isEmpty
  | some (.frz _ (.lst xs))=>some !xs.isEmpty
  | some (.dK kvs)=>some !kvs.isEmpty
  | _=>none
 | _=>none
def B0 (ta:TE):TT:=fun σ H Q=>ta σ H fun x H1=>on (qA H1 x) fun b=>Q b H1
theorem ca {a:Expr} {ta:TE} (ha:PE X a ta) (he:∀ whole,isTrue a X.env whole = (do let v ← whole; standAt a.pos; holding [v] (truthy v)):=by with_unfolding_all (intro _; rfl)):PT X a (B0 ta):=by
 intro pins s σ H Q I h
 refine isTrue_plain (bw (ha pins s σ H _ I h) fun v s1 ⟨x,H1,I1,r1,q1⟩=>wV pins s1 σ H1 x v Q I1 r1 ?_) (he _)
 obtain ⟨b,e,q⟩:=dz q1
 refine ⟨b,?_,q⟩
 cases x with
 | non=>cases e; rfl
 | bl b=>cases e; rfl
 | int i=>cases e; rfl
 | ref a =>
  simp only [qA] at e
  split at e
  ·cases e; exact .inl ⟨_,.inl (.inl ‹_›),rfl⟩
  ·cases e; exact .inr (.inl ⟨_,fh.of ‹_›,rfl⟩)
  ·cases e; exact .inl ⟨_,.inl (.inr ⟨_,‹_›⟩),rfl⟩
  ·cases e; exact .inr (.inr ⟨_,‹_›,rfl⟩)
  ·cases e
 | _=>cases e
end
section
variable {Q:VK} {Qb:Bool → Hp → Prop} {Qs:List V → Hp → Prop} {Dd:vg} {ta tb tc:TE} {tt tu:TT} {ts tr:TS} {te:TA} {g:TG} {sp:Sp} {r:R2}
theorem yK:GD ts tr Dd σ H = ts { Dd with nx:=tr Dd } σ H:=rfl
theorem B1:FM Dd σ H = Dd.nx σ H:=rfl
theorem nO:IM ta Dd σ H = ta σ H Dd.rt:=rfl
theorem EJ:IO tt ts tr Dd σ H = tt σ H fun b H1=>if b = true then ts Dd σ H1 else tr Dd σ H1:=rfl
theorem yL:ki ta g Dd σ H = ta σ H fun x H1=>g x σ H1 Dd.nx:=rfl
theorem vD {i:Nat} {v:V} {Qg:St → Hp → Prop}:ig i v σ H Qg = Qg (σ.set i (some v)) H:=rfl
theorem tM {i:Nat}:Bb i σ H Q = on (σ[i]?.join) fun v=>Q v H:=by
 unfold Bb
 cases e:σ[i]? with
 | none=>simp [on]
 | some o =>
  cases o with
  | none=>simp [on]
  | some v=>simp [on]
theorem F0 {v:V}:tC v σ H Q = Q v H:=rfl
theorem xk:GJ r ta tb σ H Q = ta σ H fun x H1=>tb σ H1 fun y H2=>r x y H2 Q:=rfl
theorem Hd:KO tt ta tb σ H Q = tt σ H fun c H1=>if c = true then ta σ H1 Q else tb σ H1 Q:=rfl
def Kv (x:V) (P:Bool → Prop):Prop:=match x with
 | .bl b=>P b
 | _=>False
theorem B2 {b:Bool} {P:Bool → Prop}:Kv (.bl b) P = P b:=rfl
theorem Hf {x:V} {P:Bool → Prop}:(∃ c,x = .bl c ∧ P c) = Kv x P:=by
 refine propext ⟨fun h=>?_,fun h=>?_⟩
 ·obtain ⟨c,rfl,h⟩:=h; exact h
 ·cases x with
  | bl b=>exact ⟨b,rfl,h⟩
  | _=>exact h.elim
theorem B3:vj ta σ H Qb = ta σ H fun x H1=>Kv x fun c=>Qb c H1:=by
 unfold vj; congr 1; funext x H1; exact Hf
theorem Hg {u:List V → Hp → VK → Prop}:Iq u te σ H Q = te σ H fun vs H1=>u vs H1 Q:=rfl
theorem B4 {dvs:List V} {E:XK}:mz sp dvs E te σ H Q = te σ H fun vs H1=>sp (vs ++ dvs) H1 Q E:=rfl
theorem B5:oq ta te σ H Qs = ta σ H fun x H1=>te σ H1 fun xs H2=>Qs (x :: xs) H2:=rfl
theorem yM:oo σ H Qs = Qs [] H:=rfl
theorem oK {f:Int → Int → V} {i j:Int}:D6 f (.int i) (.int j) H Q = Q (f i j) H:=by
 unfold D6
 refine propext ⟨fun h=>?_,fun h=>⟨i,j,rfl,rfl,h⟩⟩
 obtain ⟨i',j',e1,e2,h⟩:=h
 cases e1; cases e2; exact h
theorem mF {C:Int → Int → Prop} {f:Int → Int → V} {i j:Int}:rI C f (.int i) (.int j) H Q = (C i j ∧ Q (f i j) H):=by
 unfold rI
 refine propext ⟨fun h=>?_,fun h=>⟨i,j,rfl,rfl,h⟩⟩
 obtain ⟨i',j',e1,e2,h⟩:=h
 cases e1; cases e2; exact h
theorem z6:BY ta tb σ H Q = ta σ H fun x H1=>tb σ H1 fun y H2=>on (gF H2 x) fun kvs=>on (qy y) fun k=>on (cX kvs k) fun v=>Q v H2:=rfl
theorem xl:yJ ta tb tc σ H Q = ta σ H fun x H1=>on (gF H1 x) fun _=>tb σ H1 fun y H2=>tc σ H2 fun z H3=>on (gF H3 x) fun kvs=>on (qy y) fun k=>Q ((cX kvs k).getD z) H3:=rfl
def F1 (Dd:vg) (σ:St) (x y v:V) (H:Hp):Prop:=match x with
 | .ref a=>on (gF H x) fun kvs=>on (qy y) fun k=>kvs.length < sizeLine ∧ Dd.nx σ (upd H a (.dK (cR kvs k v)))
 | _=>False
theorem z7:BZ ta tb tc Dd σ H = tc σ H fun v H1=>ta σ H1 fun x H2=>tb σ H2 fun y H3=>F1 Dd σ x y v H3:=rfl
theorem oM {a:Addr} {y v:V}:F1 Dd σ (.ref a) y v H = on (gF H (.ref a)) fun kvs=>on (qy y) fun k=>kvs.length < sizeLine ∧ Dd.nx σ (upd H a (.dK (cR kvs k v))):=rfl
theorem kN {i:Int}:qy (.int i) = some (.inl i):=rfl
theorem B6 {x:Str}:qy (.str x) = some (.inr x):=rfl
end
def Kp (h h':Heap):Prop:=∀ b o,h.get? b = some o → h'.get? b = some o
theorem Kp.trans {h h1 h2:Heap} (x:Kp h h1) (y:Kp h1 h2):Kp h h2:=fun b o e=>y b o (x b o e)
theorem Kp.push (h:Heap) (o:Obj):Kp h (h.push o):=fun _ _ e=>Heap.get?_push_of_some _ e
def oN (a:Addr) (h h':Heap):Prop:=∀ b o,b ≠ a → h.get? b = some o → h'.get? b = some o
theorem oN.upd (h:Heap) (a:Addr) (g:Obj → Obj):oN a h (h.update a g):=fun b o n e=>(Heap.get?_update_ne _ _ _ _ n).trans e
theorem oN.kp {a:Addr} {h h1 h2:Heap} (x:oN a h h1) (y:Kp h1 h2):oN a h h2:=fun b o n e=>y b o (x b o n e)
theorem oN.trans {a:Addr} {h h1 h2:Heap} (x:oN a h h1) (y:oN a h1 h2):oN a h h2:=fun b o n e=>y b o n (x b o n e)

section
variable {a kS:Addr} {vs:List Value} {kz:List Int} {keys:Array Value} {e e1:Nat} {P:PySem.Fin → Shared → Prop}
theorem vE {st:SortSt} (nk:s.heap.get? kS = some (seqObj "list" keys e)) (na:s.heap.get? a = some (seqObj "list" #[] e1)) (hka:kS ≠ a)
  (hlen:kz.length = vs.length) (hk:IntsAre keys.toList kz) (h64:vs.length < 64) (hp:(arrOf st).Perm (keys.zip vs.toArray)) (hs:SortedTo (arrOf st) (arrOf st).size) (hfl:failedOf st = none)
  (h:∀ h' out c,(∀ b o,b ≠ a → b ≠ kS → s.heap.get? b = some o → h'.get? b = some o) → h'.get? a = some (seqObj "list" out c) → KskOut false kz vs out.toList → P (.done (.ret .none)) { s with heap:=h' }) :
  wpAny (model prog w) A (ksk_tail a false e1 (.ref kS) st) P E s:=by
 have z1:keys.size = vs.length:=by have:=hk.length; rw [Array.length_toList] at this; omega
 have z2:(arrOf st).size = vs.length:=by rw [hp.size_eq,Array.size_zip,z1,List.size_toArray,Nat.min_self]
 have z3:((arrOf st).map (·.2)).size = vs.length:=by rw [Array.size_map]; exact z2
 have na1:(s.heap.update kS (Obj.mapSeq fun _=>(#[]:Array Value))).get? a = some (seqObj "list" #[] e1):=(Heap.get?_update_ne _ _ _ _ hka.symm).trans na
 unfold ksk_tail
 dsimp only
 refine wpAny_bind (listUpdate_at nk rfl ?_ (by rw [z1,sizeLine_eq]; omega) (Nat.zero_le _))
 refine wpAny_bind (wpAny_letGo (wpAny_bind (seqEpoch_at na1 rfl ?_)))
 refine wpAny_bind (listUpdate_at na1 rfl ?_ (Nat.zero_le _) (by simp only [Bool.false_eq_true,if_false]; rw [z3,sizeLine_eq]; omega))
 rw [hfl]
 simp only [bne_self_eq_false,Bool.false_eq_true,if_false]
 refine wpAny_pure (h _ ((arrOf st).map (·.2)) _ (fun b o n1 n2 q=>?_) (get?_update_seq na1 fun _=>(arrOf st).map (·.2)) (by simpa using ksk_out (b:=false) hk hp hs))
 exact (Heap.get?_update_ne _ _ _ _ n1).trans ((Heap.get?_update_ne _ _ _ _ n2).trans q)

theorem EK (nk:s.heap.get? kS = some (seqObj "list" keys e)) (na:s.heap.get? a = some (seqObj "list" #[] e1)) (hka:kS ≠ a)
  (hlen:kz.length = vs.length) (hk:IntsAre keys.toList kz) (h64:vs.length < 64)
  (h:∀ h' out c,(∀ b o,b ≠ a → b ≠ kS → s.heap.get? b = some o → h'.get? b = some o) → h'.get? a = some (seqObj "list" out c) → KskOut false kz vs out.toList → P (.done (.ret .none)) { s with heap:=h' }) :
  wpAny (model prog w) A (ksk_end a false vs.toArray e1 (.ref kS) keys) P E s:=by
 have z1:keys.size = vs.length:=by have:=hk.length; rw [Array.length_toList] at this; omega
 have z2:(keys.zip vs.toArray).size = vs.length:=by rw [Array.size_zip,z1,List.size_toArray,Nat.min_self]
 unfold ksk_end
 simp only [Bool.false_eq_true,if_false]
 by_cases h2:vs.toArray.size < 2
 ·rw [if_pos h2,if_pos h2]
  refine wpAny_bind (wpAny_pure ?_)
  rw [StateT.run_pure]
  refine wpAny_bind (wpAny_pure ?_)
  refine vE (st:=SortSt.mk' general' (keys.zip vs.toArray) #[] 7 none) nk na hka hlen hk h64 (Array.Perm.refl _) (fun i j l1 l2=>?_) rfl h
  have l3:j < (keys.zip vs.toArray).size:=l2
  rw [z2] at l3
  rw [List.size_toArray] at h2
  obtain rfl:i = j:=by omega
  exact Int.le_refl _
 ·rw [if_neg h2,if_neg h2]
  rw [List.size_toArray] at h2
  rw [ksk_kind hk (by omega)]
  refine wpAny_bind (wpAny_pure ?_)
  refine wpAny_bind (wpAny_mono (wpS_sortRuns (a₀:=keys.zip vs.toArray) (st:=SortSt.mk' oneType' (keys.zip vs.toArray) #[] 7 none)
   (Q:=fun _ r=>(arrOf r).Perm (keys.zip vs.toArray) ∧ failedOf r = none ∧ SortedTo (arrOf r) (keys.zip vs.toArray).size)
   (ksk_intKeys hk) ⟨Array.Perm.refl _,rfl,rfl,rfl⟩ (by omega) (by omega) fun r q1 q2 q3=>⟨q1,q2,q3⟩) ?_ fun _ _ q=>q)
  rintro ⟨⟨⟩,r⟩ s' ⟨rfl,hp,hf,hs⟩
  exact vE nk na hka hlen hk h64 hp (by rw [hp.size_eq]; exact hs) hf h

theorem B7 {f:Value} (nk:s.heap.get? kS = some (seqObj "list" #[] 0)) (na:s.heap.get? a = some (seqObj "list" #[] e1)) (hka:kS ≠ a) (hlen:kz.length = vs.length) (h64:vs.length < 64)
  (turn:∀ (i:Nat) (v:Value) (k:Int),vs[i]? = some v → kz[i]? = some k → ∀ (h:Heap) (tk:Nat),oN kS s.heap h →
   wpAny (model prog w) A (call f [v]) (fun u s'=>∃ h' tk' t,s' = { s with heap:=h',toks:=tk' } ∧ Kp h h' ∧ u = .int k t) (fun _ _=>False) { s with heap:=h,toks:=tk })
  (h:∀ h' tk out c,(∀ b o,b ≠ a → b ≠ kS → s.heap.get? b = some o → h'.get? b = some o) → h'.get? a = some (seqObj "list" out c) → KskOut false kz vs out.toList → P (.done (.ret .none)) { s with heap:=h',toks:=tk }) :
  wpAny (model prog w) A (ksk_rest a f false vs.toArray e1 (.ref kS)) P E s:=by
 unfold ksk_rest
 refine wpAny_bind (wpAny_rule ?_)
 first
  | rw [List.forIn_toArray]
  | (rw [← Array.forIn_toList]; simp only [List.toList_toArray])
 refine wpAny_bind (ksk_fold (fun i s'=>∃ h' tk kA e,s' = { s with heap:=h',toks:=tk } ∧ oN kS s.heap h' ∧ h'.get? kS = some (seqObj "list" kA e) ∧ IntsAre kA.toList (kz.take i)) vs 0 s
  ⟨s.heap,s.toks,#[],0,rfl,fun _ _ _ q=>q,nk,by simpa using IntsAre.nil⟩ ?step ?done)
 case step =>
  rintro j x s' hx ⟨g,tk,kA,e,rfl,kp,hS,hk⟩
  simp only [Nat.zero_add] at hk ⊢
  have hj:j < vs.length:=(List.getElem?_eq_some_iff.mp hx).1
  have hkj:kz[j]? = some kz[j]:=List.getElem?_eq_getElem (by omega)
  have hz:kA.size ≤ vs.length:=by have:=hk.length; rw [Array.length_toList,List.length_take] at this; omega
  refine wpAny_bind (wpAny_attempt (wpAny_mono (turn j x _ hx hkj g tk kp) (fun v s'' he=>?_) fun _ _ q=>q.elim))
  obtain ⟨g2,tk2,t2,rfl,kp2,rfl⟩:=he
  dsimp only
  refine wpAny_bind (listUpdate_at (kp2 _ _ hS) rfl ?_ (by rw [sizeLine_eq]; omega) (by rw [Array.size_push,sizeLine_eq]; omega))
  refine wpAny_pure ⟨rfl,_,_,kA.push (.int kz[j] t2),_,rfl,(kp.kp kp2).trans (oN.upd _ _ _),get?_update_seq (kp2 _ _ hS) (·.push (.int kz[j] t2)),?_⟩
  have q1:kz.take (j + 1) = kz.take j ++ [kz[j]]:=by rw [List.take_add_one,hkj]; rfl
  have q2:(kA.push (Value.int kz[j] t2)).toList = kA.toList ++ [Value.int kz[j] t2]:=by simp
  rw [q1,q2]
  exact ksk_snoc hk
 case done =>
  rintro s' ⟨g,tk,kA,e,rfl,kp,hS,hk⟩
  rw [List.take_of_length_le (by omega)] at hk
  refine wpAny_bind (listItems_at hS rfl ?_)
  exact EK (s:={ s with heap:=g,toks:=tk }) hS (kp a _ hka.symm na) hka hlen hk h64 fun h' out c kk ha ho=>h h' tk out c (fun b o n1 n2 q=>kk b o n1 n2 (kp b o n2 q)) ha ho

theorem B8 {f:Value} {n:Nat} (ho:s.heap.get? a = some (seqObj "list" vs.toArray n)) (hlen:kz.length = vs.length) (h64:vs.length < 64)
  (turn:∀ (i:Nat) (v:Value) (k:Int),vs[i]? = some v → kz[i]? = some k → ∀ (h:Heap) (tk:Nat),oN a s.heap h →
   wpAny (model prog w) A (call f [v]) (fun u s'=>∃ h' tk' t,s' = { s with heap:=h',toks:=tk' } ∧ Kp h h' ∧ u = .int k t) (fun _ _=>False) { s with heap:=h,toks:=tk })
  (h:∀ h' tk out c,oN a s.heap h' → h'.get? a = some (seqObj "list" out c) → KskOut false kz vs out.toList → P (.done (.ret .none)) { s with heap:=h',toks:=tk }) :
  wpAny (model prog w) A (ksk_tree a f false) P E s:=by
 have la:a < s.heap.objs.size:=Heap.lt_size ho
 have z0:((s.heap.update a (Obj.mapSeq fun _=>(#[]:Array Value))).push (seqObj "tuple" vs.toArray 0)).objs.size = s.heap.objs.size + 1:=by rw [size_push',Heap.size_update]
 have ho1:=get?_update_seq ho fun _=>(#[]:Array Value)
 unfold ksk_tree
 have few:vs.length ≤ sizeLine:=by rw [sizeLine_eq]; omega
 refine wpAny_bind (listItems_at ho rfl (wpAny_bind (listUpdate_at ho rfl (wpAny_bind (seqEpoch_at ho1 rfl (wpAny_bind (wpAny_newTuple (wpAny_bind (wpAny_newList (wpAny_holding ?_) (Nat.zero_le _))) few)))) (by rw [List.size_toArray]; exact few) (Nat.zero_le _))))
 have kpA:oN a s.heap (((s.heap.update a (Obj.mapSeq fun _=>(#[]:Array Value))).push (seqObj "tuple" vs.toArray 0)).push (seqObj "list" #[] 0)):=((oN.upd _ _ _).kp (Kp.push _ _)).kp (Kp.push _ _)
 have lk:∀ b o,s.heap.get? b = some o → b ≠ ((s.heap.update a (Obj.mapSeq fun _=>(#[]:Array Value))).push (seqObj "tuple" vs.toArray 0)).objs.size:=fun b o q=>by
  rw [z0]; exact Nat.ne_of_lt (Nat.lt_succ_of_lt (Heap.lt_size q))
 refine B7 (s:={ s with heap:=((s.heap.update a (Obj.mapSeq fun _=>(#[]:Array Value))).push (seqObj "tuple" vs.toArray 0)).push (seqObj "list" #[] 0) }) (kS:=((s.heap.update a (Obj.mapSeq fun _=>(#[]:Array Value))).push (seqObj "tuple" vs.toArray 0)).objs.size)
  (Heap.get?_push_size _ rfl) (Heap.get?_push_of_some _ (Heap.get?_push_of_some _ ho1)) (lk a _ ho).symm hlen h64 (fun i v k q1 q2 g tk kp=>?_) fun h' tk out c kk ha hq=>?_
 ·exact turn i v k q1 q2 g tk fun b o nb q=>kp b o (lk b o q) (kpA b o nb q)
 ·exact h h' tk out c (fun b o nb q=>kk b o nb (lk b o q) (kpA b o nb q)) ha hq
end
section
variable {vs:List Value} {kz:List Int} {Q:Value → Shared → Prop}
theorem xm {t q:Addr} (ht:IsTup s.heap t vs.toArray) (hlen:kz.length = vs.length) (h64:vs.length < 64)
  (turn:∀ (i:Nat) (v:Value) (k:Int),vs[i]? = some v → kz[i]? = some k → ∀ (h:Heap) (tk:Nat),Kp s.heap h →
   wpAny (model prog w) A.in1.in1 (call (.ref q) [v]) (fun u s'=>∃ h' tk' t,s' = { s with heap:=h',toks:=tk' } ∧ Kp h h' ∧ u = .int k t) (fun _ _=>False) { s with heap:=h,toks:=tk })
  (h:∀ D h' tk out c,Kp s.heap h' → s.heap.get? D = none → h'.get? D = some (seqObj "list" out c) → KskOut false kz vs out.toList → Q (.ref D) { s with heap:=h',toks:=tk }) :
  wpAny (model prog w) A (call (.builtin "sorted") [.ref t] [(Str.ofString "key",.ref q)]) Q E s:=by
 have few:vs.length ≤ sizeLine:=by rw [sizeLine_eq]; omega
 obtain ⟨o,ho,hc,n,hd⟩:=ht
 refine call_function_entry_kw kind_sorted plain_sorted entry_sorted (ksk_s1 _ _) ?_
 unfold Builtin.«sorted»
 refine wpAny_bind (m:=checkCount "sorted" 1 1 _) (wpAny_pure (wpAny_bind (wpAny_collect_seq t (.inr rfl) ho hc hd (fun g kg=>?_) (by rw [List.size_toArray]; exact few))))
 refine wpAny_bind (wpAny_newList ?_ few)
 have hoL:(g.push (seqObj "list" vs.toArray 0)).get? g.objs.size = some (seqObj "list" vs.toArray 0):=Heap.get?_push_size _ rfl
 have kp0:Kp s.heap (g.push (seqObj "list" vs.toArray 0)):=Kp.trans kg (Kp.push _ _)
 have fr:s.heap.get? g.objs.size = none:=by
  cases e:s.heap.get? g.objs.size with
  | none=>rfl
  | some ob=>exact absurd (Heap.lt_size (kg _ _ e)) (Nat.lt_irrefl _)
 have nD:∀ b ob,s.heap.get? b = some ob → b ≠ g.objs.size:=fun b ob e z=>by rw [z,fr] at e; cases e
 show wpAny _ _ _ _ _ { s with heap:=g.push (seqObj "list" vs.toArray 0) }
 refine wpAny_bind (wpAny_holding (wpAny_call_entry_kw slot_list_sort ⟨_,hoL,rfl⟩ entry_list_sort ?_ (ksk_l1 _ _)))
 rw [ksk_t1]
 refine B8 (s:={ s with heap:=g.push (seqObj "list" vs.toArray 0) }) hoL hlen h64 (fun i v k q1 q2 g2 tk kp=>?_) fun h' tk out c kp hD hq=>⟨_,rfl,?_⟩
 ·exact turn i v k q1 q2 g2 tk fun b ob e=>kp b ob (nD b ob e) (kp0 b ob e)
 ·exact wpAny_pure ⟨_,rfl,h _ h' tk out c (fun b ob e=>kp b ob (nD b ob e) (kp0 b ob e)) fr hD hq⟩

theorem EL {f c' t:Addr} {qual x:Str} {params:Arguments} {scope:Scope} {pm ctv:Value} {p1 p2 p3:Pos} {kd:Nat} {items:Array Value} {k:Int} {u:Tok}
  (ho:s.heap.get? f = some (PySem.W.kla_obj "<lambda>" qual params (.Subscript (.Name x p1) (.Constant (.int 0) kd p2) p3) scope [] pm c' ctv)) (hcd:s.heap.CodeRec (.ref c') qual)
  (hroom:A.depth < recursionLimit) (lim:s.heap.NoLimit)
  (hb:∀ v,bindArgs (PySem.W.kla_fn "<lambda>" qual params (.Subscript (.Name x p1) (.Constant (.int 0) kd p2) p3) scope [] pm (.ref c') ctv) ⟨[v],[]⟩ = pure [(x,v)])
  (hx:scope.names.lookup x = some .local) (hcell:∀ y ∈ scope.names,y.2 ≠ .cell) (hk:scope.kind = .function) (hco:scope.isCoroutine = false) (hgen:scope.isGenerator = false) (hdb:(x == ("__debug__":Str)) = false)
  (ht:IsTup s.heap t items) (h0:items[0]? = some (.int k u)) (hsz:items.size < 64) :
  wpAny (model prog w) A (call (.ref f) [.ref t]) (fun r s'=>∃ h' tk' t',s' = { s with heap:=h',toks:=tk' } ∧ Kp s.heap h' ∧ r = .int k t') E s:=by
 refine wpAny_call (PySem.W.kla_callFunE hroom ho rfl hco hgen rfl hcd ?_)
 rw [hb]
 refine wpAny_pure (wpAny_newFunctionEnv hcell (fun y hy=>?_) (fun h₁ hns hsb=>?_) hk)
 ·rw [List.mem_singleton.mp hy]; exact hx
 ·have kp:Kp s.heap h₁:=fun b ob e=>hsb.extBut b ob (Nat.ne_of_lt (Heap.lt_size e)) (Heap.get?_push_of_some _ e)
  refine ⟨lim.keeps kp,PySem.W.kla_codeExpr ?_⟩
  refine Subscript_ (wpAny_Name (wpAny_loadName_local hk hx hns (v:=.ref t) (by simp) ?_) hdb)
  refine wpAny_Constant_int ?_
  have ht1:IsTup h₁ t items:=ht.keeps kp
  have h1:0 < items.size:=by
   rcases Nat.eq_zero_or_pos items.size with z | z
   ·rw [Array.getElem?_eq_none (by omega)] at h0; cases h0
   ·exact z
  refine subscriptTail_builtinR (x:=.int k u) (T:="tuple") ht1.typeIs slot_tuple_getitem.lookup ?_
  exact getItem_tuple (j:=0) ht1 (by decide) (by decide) (by simp [seqIndex?,h1]) h0 ⟨rfl,h₁,_,u,rfl,kp,rfl⟩
end
structure Jm (K:PySem.W.Frag) (mg:Str → Option Value) (c P:Addr):Prop where
 hd:∀ h,K.In h → PySem.W.CodeHd h c P
 ng:mainGlobals ≠ P
def yN (c':Addr) (qual:Str):HO:=.ext fun h=>h.CodeRec (.ref c') qual
def kO (H:Hp) (P:Addr) (pos:Pos) (qual:Str):Prop :=
 ∃ ps,H P = some (.tbl ps) ∧ TriplesOk ps.toList ∧ (codeAmong pos ps.toList = none ∨ ∃ c',codeAmong pos ps.toList = some (.ref c') ∧ H c' = some (yN c' qual))
def F4:Value → V
 | .ref a=>.ref a
 | _=>.non
def EM (kz:List Int) (xs ys:List V):Prop:=∃ ps:List (Int × V),ps.Perm (kz.zip xs) ∧ ys = ps.map Prod.snd ∧ ps.Pairwise fun p q=>p.1 ≤ q.1
def tN (K:PySem.W.Frag) (P:Addr) (lp:Pos) (qual:Str) (te:TE):TE:=fun σ H Q=>te σ H fun v H1=>∃ t xs kz,v = .ref t ∧ H1 t = some (.tup xs) ∧ xs.length < 64 ∧ kz.length = xs.length ∧
 (∀ (i:Nat) (x:V) (k:Int),xs[i]? = some x → kz[i]? = some k → ∃ b ys,x = .ref b ∧ H1 b = some (.tup (.int k :: ys)) ∧ ys.length < 60) ∧ kO H1 P lp qual ∧
 ∀ D H2 ys,H1 D = none → H2 D = some (.lst ys) → (∀ b o,b ≠ P → H1 b = some o → H2 b = some o) → kO H2 P lp qual → EM kz xs ys → Q (.ref D) H2
theorem cg.some {h:Heap} {a:Addr} {o:HO} (x:cg P w H h a o):∃ u,h.get? a = some u:=by
 cases o with
 | lst xs=>obtain ⟨_,_,_,_,e⟩:=x; exact ⟨_,e⟩
 | tup xs=>obtain ⟨_,_,_,u,e,_⟩:=x; exact ⟨u,e⟩
 | dK kvs=>obtain ⟨_,_,_,_,u,_,_,e,_⟩:=x; exact ⟨u,e⟩
 | dT kvs=>obtain ⟨_,_,_,_,u,_,_,e,_⟩:=x; exact ⟨u,e⟩
 | set S n=>obtain ⟨u,_,_,_,e,_⟩:=x; exact ⟨u,e⟩
 | ins C dx fs=>obtain ⟨_,_,_,e,_⟩:=x; exact ⟨_,e⟩
 | own y=>exact x
 | xd fs=>obtain ⟨_,⟨u,_,_,e,_⟩,_⟩:=x; exact ⟨u,e⟩
 | rng lo hi=>obtain ⟨_,_,_,e⟩:=x; exact ⟨_,e⟩
 | frz ob u=>exact ⟨_,x.1⟩
 | tbl ps=>exact ⟨_,x⟩
 | met f y=>exact ⟨_,x⟩
 | ext φ=>exact x.2.1
theorem vF:∀ {l:List Value},(∀ u ∈ l,aO (F4 u) u) → aN (l.map F4) l
 | [],_=>.nil
 | u :: l,h=>.cons (h u List.mem_cons_self) (vF fun v hv=>h v (List.mem_cons_of_mem _ hv))
theorem TriplesOk.snoc {a b:Int} {t u:Tok} {c:Value}:∀ {l:List Value},TriplesOk l → TriplesOk (l ++ [.int a t,.int b u,c])
 | [],_=>trivial
 | .int _ _ :: .int _ _ :: _ :: rest,h=>TriplesOk.snoc (l:=rest) h
section
variable {c P:Addr}
theorem vG {Q:VK} {qual x:Str} {lparams:Arguments} {lscope:Scope} {p1 p2 p3 lp:Pos} {kd:Nat} {pm ctv:Value} {F c' t:Addr} {g:Heap} {tk:Nat} {ps ps':Array Value} {kz:List Int}
  (I:aG X pins σ H s) (hroom:X.A.depth < recursionLimit)
  (hb:∀ v,bindArgs (PySem.W.kla_fn "<lambda>" qual lparams (.Subscript (.Name x p1) (.Constant (.int 0) kd p2) p3) lscope [] pm (.ref c') ctv) ⟨[v],[]⟩ = pure [(x,v)])
  (hx:lscope.names.lookup x = some .local) (hcell:∀ y ∈ lscope.names,y.2 ≠ .cell) (hk:lscope.kind = .function) (hco:lscope.isCoroutine = false) (hgen:lscope.isGenerator = false) (hdb:(x == ("__debug__":Str)) = false)
  (kB:oN P s.heap g) (hP0:H P = some (.tbl ps)) (hP:g.get? P = some (PySem.W.tabObj ps')) (hmore:∃ more,ps' = ps ++ more) (h3:TriplesOk ps'.toList) (hca:codeAmong lp ps'.toList = some (.ref c'))
  (hF:g.get? F = some (PySem.W.kla_obj "<lambda>" qual lparams (.Subscript (.Name x p1) (.Constant (.int 0) kd p2) p3) lscope [] pm c' ctv)) (hcd:g.CodeRec (.ref c') qual)
  (hc:(s.heap.get? c' = none ∧ H c' = none) ∨ H c' = some (yN c' qual))
  (ht:H t = some (.tup xs)) (h64:xs.length < 64) (hlen:kz.length = xs.length)
  (hxs:∀ (i:Nat) (x:V) (k:Int),xs[i]? = some x → kz[i]? = some k → ∃ b ys,x = .ref b ∧ H b = some (.tup (.int k :: ys)) ∧ ys.length < 60)
  (q:∀ D H2 ys,H D = none → H2 D = some (.lst ys) → (∀ b o,b ≠ P → H b = some o → H2 b = some o) → kO H2 P lp qual → EM kz xs ys → Q (.ref D) H2) :
  wpAny (model X.prog X.w) X.A (call (.builtin "sorted") [.ref t] [(Str.ofString "key",.ref F)]) (EP X pins σ Q) X.xe { s with heap:=g,toks:=tk }:=by
 obtain ⟨z,us,rv,tp⟩:=I.hok t _ ht
 have nP:∀ b o,H b = some o → (∀ ps,o ≠ .tbl ps) → b ≠ P:=fun b o e n z=>by rw [z,hP0] at e; cases e; exact n _ rfl
 have tpg:IsTup g t us.toArray:=by
  obtain ⟨o,ho,r⟩:=tp
  exact ⟨o,kB _ _ (nP t _ ht fun _ z=>by cases z) ho,r⟩
 have hul:=rv.length
 -- all items are references
 have isref:∀ (i:Nat) (u:Value) (k:Int),us[i]? = some u → kz[i]? = some k → ∃ b items tt,u = .ref b ∧ IsTup g b items ∧ items[0]? = some (.int k tt) ∧ items.size < 64 ∧ xs[i]? = some (.ref b):=fun i u k e1 e2=>by
  have hi:i < us.length:=(List.getElem?_eq_some_iff.mp e1).1
  obtain ⟨x,ex⟩:∃ x,xs[i]? = some x:=⟨_,List.getElem?_eq_getElem (by omega)⟩
  obtain ⟨b,ys,rfl,hbt,hy⟩:=hxs i x k ex e2
  obtain ⟨u',eu,ru⟩:=rv.get ex
  rw [e1] at eu; cases eu
  cases ru
  obtain ⟨zb,its,rb,ob,hob,r⟩:=I.hok b _ hbt
  obtain ⟨v0,rest,rfl,r0,rr⟩:∃ v0 rest,its = v0 :: rest ∧ aO (.int k) v0 ∧ aN ys rest:=by
   cases rb with
   | cons ra rt=>exact ⟨_,_,rfl,ra,rt⟩
  obtain ⟨tt,rfl⟩:=r0
  refine ⟨b,_,tt,rfl,⟨ob,kB _ _ (nP b _ hbt fun _ z=>by cases z) hob,r⟩,by simp,?_,ex⟩
  have:=rr.length
  simp
  omega
 refine xm (s:={ s with heap:=g,toks:=tk }) (kz:=kz) tpg (by omega) (by omega) (fun i u k e1 e2 h2 tk2 kp=>?_) fun D h2 tk2 out cc kp fr hD hq=>?_
 ·obtain ⟨b,items,tt,rfl,hbt,h0,hz,_⟩:=isref i u k e1 e2
  exact EL (s:={ s with heap:=h2,toks:=tk2 }) (kp _ _ hF) (hcd.keeps kp) hroom (I.ok.mod.nolimit.keeps fun b o e=>kp _ _ (kB b o (fun z=>by have:=(I.bs b o e).2; rw [z,hP0] at this; cases this) (I.bk b o e))) hb hx hcell hk hco hgen hdb (hbt.keeps kp) h0 hz
 ·obtain ⟨prs,pm,eo,pw⟩:=hq
  have nDc:D ≠ c':=fun z=>by
   obtain ⟨c2,oc,_,_,e2,hoc,_⟩:=hcd
   cases e2
   rw [← z] at hoc
   rw [show g.get? D = none from fr] at hoc; cases hoc
  have nDP:D ≠ P:=fun z=>by have f':g.get? D = none:=fr; rw [z,hP] at f'; cases f'
  have sD:s.heap.get? D = none:=by
   cases e:s.heap.get? D with
   | none=>rfl
   | some o=>exact absurd ((kB D o nDP e).symm.trans fr) (by simp)
  have HD:H D = none:=by
   cases e:H D with
   | none=>rfl
   | some o =>
    obtain ⟨u,hu⟩:=(I.hok D o e).some
    rw [sD] at hu; cases hu
  have ncP:c' ≠ P:=fun z=>by
   rcases hc with ⟨_,n⟩ | n
   ·rw [z,hP0] at n; cases n
   ·rw [z,hP0] at n; cases n
  generalize hys:out.toList.map F4 = ys
  generalize hH:upd (upd (upd H P (.tbl ps')) c' (yN c' qual)) D (.lst ys) = H3
  have gD:H3 D = some (.lst ys):=by rw [← hH]; exact aC
  have gc:H3 c' = some (yN c' qual):=by rw [← hH,am nDc.symm]; exact aC
  have gP:H3 P = some (.tbl ps'):=by rw [← hH,am nDP.symm,am ncP.symm]; exact aC
  have go:∀ b,b ≠ P → b ≠ c' → b ≠ D → H3 b = H b:=fun b n1 n2 n3=>by rw [← hH,am n3,am n2,am n1]
  have same:∀ b o,b ≠ P → H b = some o → H3 b = some o:=fun b o n e=>by
   by_cases z1:b = D
   ·rw [z1,HD] at e; cases e
   ·by_cases z2:b = c'
    ·rcases hc with ⟨_,n'⟩ | n'
     ·rw [z2,n'] at e; cases e
     ·rw [z2,n'] at e; rw [z2,gc]; exact e
    ·rw [go b n z2 z1]; exact e
  have kall:∀ b o,b ≠ P → s.heap.get? b = some o → h2.get? b = some o:=fun b o n e=>kp _ _ (kB b o n e)
  have outref:∀ u ∈ out.toList,aO (F4 u) u:=fun u hu=>by
   rw [eo] at hu
   obtain ⟨⟨k,u'⟩,hp,rfl⟩:=List.mem_map.mp hu
   have hm:=pm.mem_iff.mp hp
   obtain ⟨i,hi⟩:=List.mem_iff_getElem?.mp hm
   rw [List.getElem?_zip_eq_some] at hi
   obtain ⟨b,_,_,e,_⟩:=isref i u' k hi.2 hi.1
   show aO (F4 u') u'
   rw [e]; rfl
  have sorted:EM kz xs ys:=by
   have exs:xs = us.map F4:=by
    apply List.ext_getElem?
    intro i
    rw [List.getElem?_map]
    by_cases hi:i < us.length
    ·obtain ⟨b,_,_,e,_,_,_,ex⟩:=isref i us[i] kz[i] (List.getElem?_eq_getElem hi) (List.getElem?_eq_getElem (by omega))
     rw [List.getElem?_eq_getElem hi,ex,e]; rfl
    ·rw [List.getElem?_eq_none (by omega),List.getElem?_eq_none (by omega)]; rfl
   refine ⟨prs.map fun p=>(p.1,F4 p.2),?_,?_,?_⟩
   ·have:=pm.map fun p:Int × Value=>(p.1,F4 p.2)
    rw [exs,List.zip_map_right]
    exact this
   ·rw [← hys,eo,List.map_map,List.map_map]; rfl
   ·rw [List.pairwise_map]; simpa using pw
  refine ⟨.ref D,H3,?_,rfl,q D H3 ys HD gD same ⟨ps',gP,h3,.inr ⟨c',hca,gc⟩⟩ sorted⟩
  show aG X pins σ H3 { s with heap:=h2,gens:=s.gens,drawn:=s.drawn,toks:=tk2 }
  refine I.step (ch:=[]) (fun _ z=>nomatch z) (fun b o _ _ _ e n=>kall b o (fun z=>by rw [z,hP0] at n; cases n) e) (fun b o _ _ _ e n=>⟨o.slots,kall b o (fun z=>by rw [z,hP0] at n; cases n) e⟩)
   (fun b o _ e n=>?_) (fun b o _ e=>?_) (fun b xs e=>same b _ (nP b _ e fun _ z=>by cases z) e) (fun b o u e=>same b _ (nP b _ e fun _ z=>by cases z) e) (fun b qs e=>?_) (fun m hm=>?_) (fun b o e=>?_) I.bare
  ·-- free
   by_cases z1:b = D
   ·rw [z1,sD] at e; cases e
   ·by_cases z2:b = c'
    ·rcases hc with ⟨n',_⟩ | n'
     ·rw [z2,n'] at e; cases e
     ·rw [z2,n'] at n; cases n
    ·by_cases z3:b = P
     ·rw [z3,hP0] at n; cases n
     ·rw [go b z3 z2 z1]; exact n
  ·by_cases z3:b = P
   ·rw [z3]; exact ⟨_,kp _ _ hP⟩
   ·exact ⟨o,kall b o z3 e⟩
  ·by_cases z3:b = P
   ·rw [z3,hP0] at e; cases e
    obtain ⟨more,em⟩:=hmore
    exact ⟨more,by rw [z3,gP,em]⟩
   ·exact ⟨#[],by rw [same b _ z3 e]; simp⟩
  ·obtain ⟨o,es,ep,ho,r⟩:=hm
   exact ⟨o,es,ep,kall _ o (fun z=>by have:=I.free; rw [z,hP0] at this; cases this) ho,r⟩
  ·by_cases z1:b = D
   ·rw [z1,gD] at e; cases e
    rw [z1]
    have hl:ys.length = out.toList.length:=by rw [← hys,List.length_map]
    refine ⟨?_,out.toList,cc,?_,by rw [hD]⟩
    ·rw [hl,eo,List.length_map,pm.length_eq,List.length_zip]
     exact Nat.le_of_lt (ce (by omega))
    ·rw [← hys]
     exact vF outref
   ·by_cases z2:b = c'
    ·rw [z2,gc] at e; cases e
     rw [z2]
     refine ⟨hcd.keeps kp,?_,?_⟩
     ·obtain ⟨c2,oc,_,_,e2,hoc,_⟩:=hcd.keeps kp
      cases e2; exact ⟨oc,hoc⟩
     ·rintro h4 h5 ⟨c2,oc,vs,tt,e2,hoc,r⟩ hk5
      cases e2
      exact ⟨_,oc,vs,tt,rfl,hk5 oc hoc,r⟩
    ·by_cases z3:b = P
     ·rw [z3,gP] at e; cases e
      rw [z3]; exact kp _ _ hP
     ·rw [go b z3 z2 z1] at e
      refine (I.hok b o e).stay (fun b' u hb' e'=>kall b' u ?_ e') (fun b' e'=>?_) fun b' zs e'=>?_
      ·rcases hb' with rfl | e2
       ·exact z3
       ·exact nP b' _ e2 fun _ z=>by cases z
      ·exact same b' _ (nP b' _ e' fun _ z=>by cases z) e'
      ·exact same b' _ (nP b' _ e' fun _ z=>by cases z) e'
theorem B9 {e:Expr} {te:TE} {x:Str} {lparams:Arguments} {lscope:Scope} {p p1 p2 p3 lp kp pos:Pos} {kd:Nat} (L:Jm X.K X.mg c P) (hB:X.base.BuiltinsAt X.mg P) (hcode:X.env.code = .ref c) (hroom:X.A.depth < recursionLimit) (hm:X.mg "sorted" = none) (he:PE X e te)
  (hdef:defaultsOf lparams X.env = ([],[]):=by with_unfolding_all rfl) (hcl:closureFor lscope X.env = pure []:=by with_unfolding_all rfl)
  (hb:∀ qual pm c' ctv v,bindArgs (PySem.W.kla_fn "<lambda>" qual lparams (.Subscript (.Name x p1) (.Constant (.int 0) kd p2) p3) lscope [] pm (.ref c') ctv) ⟨[v],[]⟩ = pure [(x,v)]:=by with_unfolding_all (intros; rfl))
  (hx:lscope.names.lookup x = some .local:=by with_unfolding_all rfl) (hcell:∀ y ∈ lscope.names,y.2 ≠ .cell:=by with_unfolding_all decide) (hk:lscope.kind = .function:=by with_unfolding_all rfl) (hco:lscope.isCoroutine = false:=by with_unfolding_all rfl) (hgen:lscope.isGenerator = false:=by with_unfolding_all rfl) (hdb:(x == ("__debug__":Str)) = false:=by decide)
  (hg:Gl X "sorted":=by with_unfolding_all rfl) (hst:starEach [e] X.env = (false,eval e X.env) :: starEach [] X.env:=by with_unfolding_all rfl) :
  PE X (.Call (.Name "sorted" p) [e] [⟨some "key",.Lambda lparams (.Subscript (.Name x p1) (.Constant (.int 0) kd p2) p3) lscope lp,kp⟩] pos) (tN X.K P lp (X.env.qual ++ "<lambda>") te):=by
 intro pins s σ H Q I h
 refine wpAny_Call_Name_kw (lF I hg hm cw ?_)
 refine callWith_builtin_kwB (by rw [hst]; rfl) (by rfl) (evalArgs_kw2 (by rfl) ?_ hst)
 have ha:PA X [e] (oq te oo):=fW he jJ hst
 refine bw (ha pos pins s σ H (fun vs H1=>match vs with
  | [v]=>∃ t xs kz,v = .ref t ∧ H1 t = some (.tup xs) ∧ xs.length < 64 ∧ kz.length = xs.length ∧
   (∀ (i:Nat) (x:V) (k:Int),xs[i]? = some x → kz[i]? = some k → ∃ b ys,x = .ref b ∧ H1 b = some (.tup (.int k :: ys)) ∧ ys.length < 60) ∧ kO H1 P lp (X.env.qual ++ "<lambda>") ∧
   ∀ D H2 ys,H1 D = none → H2 D = some (.lst ys) → (∀ b o,b ≠ P → H1 b = some o → H2 b = some o) → kO H2 P lp (X.env.qual ++ "<lambda>") → EM kz xs ys → Q (.ref D) H2
  | _=>False) I h) fun us s1 ⟨vs,H1,I1,rv,q1⟩=>?_
 match vs,q1 with
 | [v],⟨t,xs,kz,ev,ht,h64,hlen,hxs,⟨ps,hP,h3,hps⟩,q⟩ =>
 subst ev
 obtain ⟨u,rfl,ru⟩:=iH rv
 cases ru
 have hP1:s1.heap.get? P = some (PySem.W.tabObj ps):=I1.hok P _ hP
 have ne:∀ b o,X.base.get? b = some o → b ≠ P:=fun b o e z=>by have:=(I1.bs b o e).2; rw [z,hP] at this; cases this
 have hbA:s1.heap.BuiltinsAt X.mg P:=by
  obtain ⟨bm,ob,b1,b2,b3,b4,b5,b6⟩:=hB
  exact ⟨bm,ob,b1,b2,b3,b4,I1.bk _ _ b5,b6⟩
 have hgl:X.env.globals = mainGlobals:=I1.ok.glob
 have hns:s1.heap.Ns mainGlobals X.mg:=I1.mod.glob.keeps I1.bk
 show wpAny _ _ (evalAll [do let v ← eval (.Lambda lparams (.Subscript (.Name x p1) (.Constant (.int 0) kd p2) p3) lscope lp) X.env; standAt pos; pure v]) _ _ s1
 refine wpAny_evalAll_cons (wpAny_bind (PySem.W.kla_eval hdef ?_))
 rcases hps with hn | ⟨c',hc,hx'⟩
 ·refine PySem.W.kla_makeFunction (mg:=X.mg) hcl hgl hns hcode (L.hd _ I1.kIn) hP1 h3 hn L.ng hbA fun c' ctv g tk hx1 hge hlt hrec htb=>?_
  refine wpAny_bind (wpAny_standAt (wpAny_pure (wpAny_evalAll_nil ?_)))
  have fr:s1.heap.get? c' = none:=Heap.get?_none_of_le hge
  refine vG (s:=s1) (ps:=ps) I1 hroom (fun v=>hb _ _ _ _ v) hx hcell hk hco hgen hdb (fun b o n e=>Heap.get?_push_of_some _ (hx1 b o n e)) hP (Heap.get?_push_of_some _ htb) ⟨_,rfl⟩ ?_ ?_ (Heap.get?_push_size _ rfl) (hrec.push _) (.inl ⟨fr,I1.hok.fresh hge⟩) ht h64 hlen hxs q
  ·simpa [rawInt] using TriplesOk.snoc h3
  ·simpa using codeAmong_snoc _ h3 hn
 ·refine PySem.W.kla_makeFunctionHit (mg:=X.mg) hcl hgl hns hcode (L.hd _ I1.kIn) hP1 h3 hc hbA fun ctv g tk hk1 hsz=>?_
  refine wpAny_bind (wpAny_standAt (wpAny_pure (wpAny_evalAll_nil ?_)))
  have hrec:s1.heap.CodeRec (.ref c') (X.env.qual ++ "<lambda>"):=(I1.hok c' _ hx').1
  exact vG (s:=s1) (ps:=ps) I1 hroom (fun v=>hb _ _ _ _ v) hx hcell hk hco hgen hdb (fun b o n e=>Heap.get?_push_of_some _ (hk1 b o e)) hP (Heap.get?_push_of_some _ (hk1 _ _ hP1)) ⟨#[],by simp⟩ h3 hc (Heap.get?_push_size _ rfl) ((hrec.keeps hk1).push _) (.inr hx') ht h64 hlen hxs q
end
section
end
section
def Hh (K:PySem.W.Frag) (mg:Str → Option Value) (x:Str) (st:Stmt) (c:Addr):Prop :=
 ∃ (f:Addr) (oc:Value) (od:Option Addr) (kV doc pm:Value) (an:Option Addr) (ct:Value) (osl:Array (Option Value)),
  K.lookup f = some ⟨oc,od,.func (PySem.W.fnOf x x (bV st) (bd st) (ag st) .none kV doc pm an (.ref c) ct),osl⟩ ∧ PySem.W.codeIn K (.ref c) x = true ∧ PySem.W.keepIn K (.ref f) = true ∧ mg x = some (.ref f)
end
section
end
section
end
theorem z8 {mg mb:Str → Option Value} {k:Nat} {fa a T:Addr} {x:Str} {sp:Sp} {s₁:Shared} {vs:List Value} {ns:List Int}
  (KX:K.In s₁.heap) (hns:s₁.heap.Ns mainGlobals mg) (hb:s₁.heap.Ns builtinsNs mb) (hbb:∀ x:Str,x ≠ "__name__" → mb x = bootBuiltins x) (hlim:s₁.heap.NoLimit) (hg:s₁.gens = #[])
  (hB:s₁.heap.BuiltinsAt mg T) (hT:s₁.heap.get? T = some (PySem.W.tabObj #[])) (hKT:K.lookup T = none) (hct:isCodeTable s₁.heap T)
  (ha:s₁.heap.get? a = some { cls:=.type "list",data:=.seq vs.toArray }) (hi:IntsAre vs ns) (hl:ns.length ≤ sizeLine) (hr:bQ k callerA)
  (F:∀ base:Heap,K.In base → base.Ns mainGlobals mg → base.BuiltinsAt mg T → db P w K mg base fT k fa fd [x] sp) (hbind:∀ (s:Shared) (u:Value),BindsTo s fd ⟨[u],[]⟩ [(x,u)])
  (hsp:∀ H:Hp,fu K H a (ns.map V.int) → H T = some (.tbl #[]) → sp [.ref a] H (fun v _=>v = .bl true) fun _ _ _=>False) :
  codeAny (model P w) callerA (.call (.ref fa) ⟨[.ref a],[]⟩) (fun r s'=>r = .ok (.ret (.bool true)) ∧ OldK s₁.heap s'.heap ∧ s'.os = s₁.os ∧ AllBare s'.gens) s₁:=by
 have rv:=rX hi
 have lenV:=hi.length
 have naT:a ≠ T:=fun z=>by rw [z,hT] at ha; cases ha
 have core:∀ H:Hp,fu K H a (ns.map V.int) → H T = some (.tbl #[]) → iF P w H s₁.heap → (∀ b u,H b = some u → b = T ∨ (b = a ∧ ∃ o xs,u = .frz o (.lst xs))) → (H a ≠ none → K.lookup a = none) →
   codeAny (model P w) callerA (.call (.ref fa) ⟨[.ref a],[]⟩) (fun r s'=>r = .ok (.ret (.bool true)) ∧ OldK s₁.heap s'.heap ∧ s'.os = s₁.os ∧ AllBare s'.gens) s₁:=by
  intro H hS hHT hok hA hK
  have noA:∀ {b:Addr} {o:Obj} {es:Array DictEntry} {ep:Nat},s₁.heap.get? b = some o → o.data = .dict es ep → H b = none:=fun {b o es ep} e d=>by
   cases q:H b with
   | none=>rfl
   | some u =>
    rcases hA b u q with z | ⟨z,_⟩
    ·rw [z,hT] at e; cases e; cases d
    ·rw [z,ha] at e; cases e; cases d
  have nsK:∀ {b:Addr} {m:Str → Option Value},s₁.heap.Ns b m → (s0 s₁.heap H).Ns b m:=fun {b m} ⟨o,es,ep,e,d,r⟩=>⟨o,es,ep,og e (noA e d),d,r⟩
  have hKb:K.In (s0 s₁.heap H):=fun b o e=>og (KX b o e) (by
   cases q:H b with
   | none=>rfl
   | some u =>
    rcases hA b u q with z | ⟨z,_⟩
    ·rw [z,hKT] at e; cases e
    ·have:H a ≠ none:=by rw [← z,q]; simp
     rw [z,hK this] at e; cases e)
  have hM:Mod K mg (s0 s₁.heap H):=⟨hKb,nsK hns,⟨mb,nsK hb,hbb⟩,let ⟨mc,h1,h2⟩:=hlim; ⟨mc,nsK h1,h2⟩⟩
  have e0:m7 P w K mg (s0 s₁.heap H) callerA [] s₁ H:=⟨rfl,hM,fun b o e=>Ea e,Nat.le_of_eq (zH _ _),trivial,fun b z=>absurd (show b ∈ ([]:List Addr) from z) (by simp),hok,.of_eq hg⟩
  have hBb:(s0 s₁.heap H).BuiltinsAt mg T:=by
   obtain ⟨bm,ob,b1,b2,b3,b4,b5,b6,b7,b8⟩:=hB
   refine ⟨bm,ob,b1,b2,b3,b4,og b5 ?_,b6,b7,b8⟩
   cases q:H bm with
   | none=>rfl
   | some u =>
    rcases hA bm u q with z | ⟨z,_⟩
    ·exact absurd z b4
    ·rw [z,ha] at b5; cases b5; simp at b6
  refine codeAny_mono ((F _ hKb (nsK hns) hBb).run callerA [] s₁ H ⟨[.ref a],[]⟩ [.ref a] [.ref a] _ _ hr e0 (hbind s₁ (.ref a)) (.cons rfl .nil) (hsp H hS hHT)) fun r s' h=>?_
  cases r with
  | error e=>exact (show False from h).elim
  | ok fl =>
   cases fl with
   | next=>exact False.elim h
   | brk=>exact False.elim h
   | cont=>exact False.elim h
   | ret u =>
    obtain ⟨v,H',os,bare,un,hok',r',q⟩:=h
    have q':v = .bl true:=q
    subst q'
    obtain rfl:u = Value.bool true:=r'
    refine ⟨rfl,⟨fun b o e=>?_,fun b o e=>un.there b o e (by simp)⟩,os,bare⟩
    cases q:H b with
    | none=>exact .inl (un.keep b o e q (by intro z; exact absurd (show b ∈ ([]:List Addr) from z) (by simp)) (by simp))
    | some u =>
     rcases hA b u q with z | ⟨z,ob,xs,z1⟩
     ·obtain ⟨more,e2⟩:=un.tbls b #[] (by rw [z]; exact hHT)
      have e3:=hok' b _ e2
      rw [z,hT] at e; cases e
      exact .inr (.inl ⟨z ▸ hct,rfl,#[],more,rfl,e3⟩)
     ·rw [z1] at q
      have z2:=un.frzs b ob _ q
      obtain ⟨e1,_⟩:=hok b _ q
      obtain ⟨e2,_⟩:=hok' b _ z2
      rw [e] at e1; cases e1
      exact .inl e2
 cases hk:K.lookup a with
 | some o =>
  have e:=KX a o hk
  rw [ha] at e
  cases e
  refine core (fun b=>if b = T then some (.tbl #[]) else none) (.inr ⟨_,vs.toArray,_,hk,rfl,rfl,rfl,by rw [List.size_toArray,lenV]; exact hl,by simpa using rv⟩) (if_pos rfl) (fun b u z=>?_) (fun b u z=>?_) fun z=>absurd (if_neg naT) z
  ·by_cases hb:b = T
   ·have z':=(if_pos hb).symm.trans z
    cases z'
    subst hb
    exact hT
   ·cases (if_neg hb).symm.trans z
  ·by_cases hb:b = T
   ·exact .inl hb
   ·cases (if_neg hb).symm.trans z
 | none =>
  refine core (fun b=>if b = T then some (.tbl #[]) else if b = a then some (.frz { cls:=.type "list",data:=.seq vs.toArray } (.lst (ns.map V.int))) else none)
   (.inl (.inr ⟨{ cls:=.type "list",data:=.seq vs.toArray },(if_neg naT).trans (if_pos rfl)⟩)) (if_pos rfl) (fun b u z=>?_) (fun b u z=>?_) fun _=>hk
  ·by_cases hb:b = T
   ·have z':=(if_pos hb).symm.trans z
    cases z'
    subst hb
    exact hT
   ·have z1:=(if_neg hb).symm.trans z
    by_cases hb2:b = a
    ·have z':=(if_pos hb2).symm.trans z1
     cases z'
     subst hb2
     exact ⟨ha,by rw [List.length_map]; exact hl,vs,_,rv,ha⟩
    ·cases (if_neg hb2).symm.trans z1
  ·by_cases hb:b = T
   ·exact .inl hb
   ·have z1:=(if_neg hb).symm.trans z
    by_cases hb2:b = a
    ·have z':=(if_pos hb2).symm.trans z1
     cases z'
     exact .inr ⟨hb2,_,_,rfl⟩
    ·cases (if_neg hb2).symm.trans z1
theorem Ca {l:PySem.W.OpenLaw} {n k:Nat} {q:Program} {loose:List Str} {XP:(Str → Option Value) → Heap → Prop} {YP:World → Heap → Prop} {d:DefRec} {K:Params → PySem.W.Frag} {sp:World → Sp} {x:Str} {T:Addr}
  (hn:l.most = some n) (hn2:n ≤ sizeLine) (hdf:d.params.defaults = []) (hr:bQ k callerA)
  (hY:∀ (w:World) (h:Heap),YP w h → (K w.params).In h ∧ h.get? T = some (PySem.W.tabObj #[]))
  (F:∀ (w:World) (mg:Str → Option Value) (fa:Addr) (h:Heap),(K w.params).In h → h.Ns mainGlobals mg → mg d.name = some (.ref fa) →
   (K w.params).lookup T = none ∧ (∃ c,PySem.W.codeHdIn (K w.params) c T = true) ∧ ∃ fd:FuncData,(∀ (s:Shared) (u:Value),BindsTo s fd ⟨[u],[]⟩ [(x,u)]) ∧
    ∀ base:Heap,(K w.params).In base → base.Ns mainGlobals mg → base.BuiltinsAt mg T → db l.prog w (K w.params) mg base fT k fa fd [x] (sp w))
  (hsp:∀ (w:World) (H:Hp) (a:Addr) (ns:List Int),ns.length ≤ n → fu (K w.params) H a (ns.map V.int) → H T = some (.tbl #[]) → sp w [.ref a] H (fun v _=>v = .bl true) fun _ _ _=>False) :
  PySem.W.WalkO q loose XP YP l.row.toRowW d [] (fun f vs=>PySem.call f vs):=by
 refine Att.attach_call hn hdf fun w s₀ s₁ mg mb fa o pm cd doc a vs ns G Y ho hd hcd hmg hobj hints hlen hg=>?_
 obtain ⟨KX,hT⟩:=hY w _ Y
 obtain ⟨hKT,⟨c,hc⟩,fd,hb,hF⟩:=F w mg fa _ KX G.T.g hmg
 obtain ⟨oc,vs',_,_,_,_,_,_,_,g1,g2,g3,g4,_⟩:=PySem.W.codeHd_of_K KX hc
 have hB:s₁.heap.BuiltinsAt mg T:=by
  obtain ⟨bm,ob,b1,b2,b3,b4,b5,b6⟩:=G.T.bmain
  refine ⟨bm,ob,b1,b2,fun z=>?_,fun z=>?_,b3,b4,b5,b6⟩
  ·obtain ⟨o,es,ep,e,hd',_⟩:=G.T.g
   rw [z,e] at b3; cases b3; rw [hd'] at b6; cases b6
  ·rw [z,hT] at b3; cases b3; cases b4
 exact z8 KX G.T.g G.T.b G.T.builtins G.T.nolimit hg hB hT hKT ⟨c,oc,vs',g1,g2,g3,g4⟩ hobj hints (Nat.le_trans hlen hn2) hr hF hb fun H hS hHT=>hsp w H a ns hlen hS hHT
section
def xn:List V → Hp → VK → Prop:=fun xs H Q=>match xs with
 | [.int i,.int j]=>Q (.int (if j > i then j else i)) H
 | _=>False
def xo:List V → Hp → VK → Prop:=fun xs H Q=>match xs with
 | [.int i,.int j]=>Q (.int (if j < i then j else i)) H
 | _=>False
theorem jL (hc:X.calm = true):dy X (.builtin "max") xn:=by
 intro pins s σ H xs us Q I r h
 unfold xn at h
 split at h
 ·exact zK hc pins s σ H _ us Q I r ⟨_,_,rfl,h⟩
 ·exact h.elim
theorem xp (hc:X.calm = true):dy X (.builtin "min") xo:=by
 intro pins s σ H xs us Q I r h
 unfold xo at h
 split at h
 ·exact zL hc pins s σ H _ us Q I r ⟨_,_,rfl,h⟩
 ·exact h.elim
end
theorem tO {g:Str × NameKind → NameKind} (hg:∀ p,p.2 = .cell ∨ p.2 = .free → g p = .cell ∨ g p = .free):∀ {names:List (Str × NameKind)} {x:Str},(names.lookup x = some .cell ∨ names.lookup x = some .free) →
  ((names.map fun p=>(p.1,g p)).lookup x = some .cell ∨ (names.map fun p=>(p.1,g p)).lookup x = some .free)
 | [],x,h=>by simp at h
 | (n,k) :: r,x,h=>by
  rw [List.map_cons,List.lookup_cons]
  rw [List.lookup_cons] at h
  cases e:(x == n) with
  | true =>
   rw [e] at h
   simp only at h ⊢
   have:=hg (n,k) (by simpa using h)
   simpa using this
  | false =>
   rw [e] at h
   simp only at h ⊢
   exact tO hg h
theorem qB (sc:Scope) (env:Env):∃ g:Str × NameKind → NameKind,(∀ p,p.2 = .cell ∨ p.2 = .free → g p = .cell ∨ g p = .free) ∧ (relabel sc env).names = sc.names.map fun p=>(p.1,g p):=by
 refine ⟨fun p=>if (p.2 == NameKind.free && env.scope.kind == .function && env.kindOf p.1 == some .cell) then .cell else p.2,fun p h=>?_,?_⟩
 ·dsimp only
  split
  ·exact .inl rfl
  ·exact h
 ·unfold relabel
  dsimp only
  apply List.map_congr_left
  intro p _
  obtain ⟨n,k⟩:=p
  dsimp only
  split <;> rfl
theorem aW.re {up:Scope} {N:List Str} {sc:Scope} {Nc:List Str} {env:Env} (S:aW up N sc Nc ix):aW (relabel up env) N sc Nc ix:=by
 obtain ⟨g,hg,e⟩:=qB up env
 refine ⟨S.kind,S.nocell,S.loc,fun y hy h=>?_,S.nd,S.len,fun p hp=>?_⟩
 ·rw [e]; exact tO hg (S.free y hy h)
 ·have:=S.map p hp
  revert this
  cases p.2 with
  | none=>intro _; rfl
  | some j =>
   intro this
   simp only [Bool.and_eq_true,decide_eq_true_eq] at this ⊢
   obtain ⟨⟨⟨h1,h2⟩,h3⟩,h4⟩:=this
   exact ⟨⟨⟨h1,by rw [e]; exact tO hg h2⟩,h3⟩,h4⟩
end L2
namespace RB
open PySem L2
inductive AV where
 | non | bl (b:Bool) | int (s:Bool) (lo hi:Int) | str (i:Nat) | ref (n:Nat) | ext (i:Nat) | tn | tc (h t:AV)
inductive AO where
 | lst (xs:List AV)
 | dk (kvs:List (AV × AV))
 | dt (kvs:List (AV × AV))
 | ins (c:Nat) (fs:List (Nat × AV))
 /-- a dict that a loop walks: read,not written -/
 | fz (o:AO)
inductive Tr where
 | lf | nd (l:Tr) (o:AO) (r:Tr)
def Tr.get:Tr → Nat → Option AO
 | .lf,_=>none
 | .nd l o r,n=>match Nat.beq n 0 with
  | true=>some o
  | false=>match Nat.beq (n % 2) 1 with
   | true=>l.get (n / 2)
   | false=>r.get (n / 2 - 1)
def Tr.put:Tr → Nat → AO → Tr
 | .lf,_,x=>.nd .lf x .lf
 | .nd l o r,n,x=>match Nat.beq n 0 with
  | true=>.nd l x r
  | false=>match Nat.beq (n % 2) 1 with
   | true=>.nd (l.put (n / 2) x) o r
   | false=>.nd l o (r.put (n / 2 - 1) x)
structure aT where
 n:Nat
 sym:Bool
 t:Tr
def Tr.has:Tr → Nat → Prop
 | .lf,_=>False
 | .nd l _ r,n=>if n = 0 then True else if n % 2 = 1 then l.has (n / 2) else r.has (n / 2 - 1)
theorem fU (n m:Nat):Nat.beq n m = decide (n = m):=by
 cases e:Nat.beq n m with
 | true=>rw [Nat.eq_of_beq_eq_true e]; simp
 | false=>rw [decide_eq_false (Nat.ne_of_beq_eq_false e)]
theorem Tr.put_same:∀ (t:Tr) (n:Nat) (x:AO),(t.has n ∨ ∀ i,i < n → t.has i) → (t.put n x).get n = some x
 | .lf,n,x,h=>by
  have:n = 0:=by
   rcases h with h | h
   ·exact h.elim
   ·cases n with
    | zero=>rfl
    | succ n=>exact (h 0 (Nat.succ_pos _)).elim
  subst this
  rfl
 | .nd l o r,n,x,h=>by
  by_cases h0:n = 0
  ·subst h0; rfl
  ·have e0:Nat.beq n 0 = false:=by rw [fU]; simp [h0]
   by_cases h1:n % 2 = 1
   ·have e1:Nat.beq (n % 2) 1 = true:=by rw [fU]; simp [h1]
    have hl:l.has (n / 2) ∨ ∀ i,i < n / 2 → l.has i:=by
     rcases h with h | h
     ·left
      unfold Tr.has at h
      simpa [h0,h1] using h
     ·right
      intro i hi
      have:=h (2 * i + 1) (by omega)
      unfold Tr.has at this
      have z:(2 * i + 1) / 2 = i:=by omega
      have z1:(2 * i + 1) % 2 = 1:=by omega
      simpa [z,z1] using this
    have:=Tr.put_same l (n / 2) x hl
    unfold Tr.put
    rw [e0,e1]
    dsimp only
    unfold Tr.get
    rw [e0,e1]
    exact this
   ·have e1:Nat.beq (n % 2) 1 = false:=by rw [fU]; simp [h1]
    have hl:r.has (n / 2 - 1) ∨ ∀ i,i < n / 2 - 1 → r.has i:=by
     rcases h with h | h
     ·left
      unfold Tr.has at h
      simpa [h0,h1] using h
     ·right
      intro i hi
      have:=h (2 * i + 2) (by omega)
      unfold Tr.has at this
      have z:(2 * i + 2) / 2 - 1 = i:=by omega
      have z1:¬ (2 * i + 2) % 2 = 1:=by omega
      simpa [z,z1] using this
    have:=Tr.put_same r (n / 2 - 1) x hl
    unfold Tr.put
    rw [e0,e1]
    dsimp only
    unfold Tr.get
    rw [e0,e1]
    exact this
theorem Tr.put_ne:∀ (t:Tr) (n m:Nat) (x:AO),(t.has n ∨ ∀ i,i < n → t.has i) → m ≠ n → (t.put n x).get m = t.get m
 | .lf,n,m,x,h,hm=>by
  have:n = 0:=by
   rcases h with h | h
   ·exact h.elim
   ·cases n with
    | zero=>rfl
    | succ n=>exact (h 0 (Nat.succ_pos _)).elim
  subst this
  show (Tr.nd .lf x .lf).get m = none
  unfold Tr.get
  have e0:Nat.beq m 0 = false:=by rw [fU]; simp [hm]
  rw [e0]
  dsimp only
  split <;> rfl
 | .nd l o r,n,m,x,h,hm=>by
  by_cases h0:n = 0
  ·subst h0
   have e0:Nat.beq m 0 = false:=by rw [fU]; simp [hm]
   show (Tr.nd l x r).get m = _
   unfold Tr.get
   rw [e0]
  ·have e0:Nat.beq n 0 = false:=by rw [fU]; simp [h0]
   by_cases h1:n % 2 = 1
   ·have e1:Nat.beq (n % 2) 1 = true:=by rw [fU]; simp [h1]
    have hl:l.has (n / 2) ∨ ∀ i,i < n / 2 → l.has i:=by
     rcases h with h | h
     ·left
      unfold Tr.has at h
      simpa [h0,h1] using h
     ·right
      intro i hi
      have:=h (2 * i + 1) (by omega)
      unfold Tr.has at this
      have z:(2 * i + 1) / 2 = i:=by omega
      have z1:(2 * i + 1) % 2 = 1:=by omega
      simpa [z,z1] using this
    conv=>lhs; unfold Tr.put
    rw [e0,e1]
    dsimp only
    by_cases m0:m = 0
    ·subst m0; rfl
    ·have f0:Nat.beq m 0 = false:=by rw [fU]; simp [m0]
     unfold Tr.get
     rw [f0]
     dsimp only
     by_cases m1:m % 2 = 1
     ·have f1:Nat.beq (m % 2) 1 = true:=by rw [fU]; simp [m1]
      rw [f1]
      exact Tr.put_ne l (n / 2) (m / 2) x hl (by omega)
     ·have f1:Nat.beq (m % 2) 1 = false:=by rw [fU]; simp [m1]
      rw [f1]
   ·have e1:Nat.beq (n % 2) 1 = false:=by rw [fU]; simp [h1]
    have hl:r.has (n / 2 - 1) ∨ ∀ i,i < n / 2 - 1 → r.has i:=by
     rcases h with h | h
     ·left
      unfold Tr.has at h
      simpa [h0,h1] using h
     ·right
      intro i hi
      have:=h (2 * i + 2) (by omega)
      unfold Tr.has at this
      have z:(2 * i + 2) / 2 - 1 = i:=by omega
      have z1:¬ (2 * i + 2) % 2 = 1:=by omega
      simpa [z,z1] using this
    conv=>lhs; unfold Tr.put
    rw [e0,e1]
    dsimp only
    by_cases m0:m = 0
    ·subst m0; rfl
    ·have f0:Nat.beq m 0 = false:=by rw [fU]; simp [m0]
     unfold Tr.get
     rw [f0]
     dsimp only
     by_cases m1:m % 2 = 1
     ·have f1:Nat.beq (m % 2) 1 = true:=by rw [fU]; simp [m1]
      rw [f1]
     ·have f1:Nat.beq (m % 2) 1 = false:=by rw [fU]; simp [m1]
      rw [f1]
      exact Tr.put_ne r (n / 2 - 1) (m / 2 - 1) x hl (by omega)
theorem Tr.has_of_get:∀ (t:Tr) (n:Nat) (o:AO),t.get n = some o → t.has n
 | .lf,_,_,h=>by cases h
 | .nd l o r,n,x,h=>by
  unfold Tr.get at h
  rw [fU,fU] at h
  unfold Tr.has
  by_cases h0:n = 0
  ·simp [h0]
  ·by_cases h1:n % 2 = 1
   ·simp only [h0,h1,if_false,if_true,decide_true,decide_false] at h ⊢
    exact Tr.has_of_get l _ _ h
   ·simp only [h0,h1,if_false,decide_false] at h ⊢
    exact Tr.has_of_get r _ _ h
def bf:List Str:=[Str.ofString "a",Str.ofString "again",Str.ofString "alone",Str.ofString "ask",Str.ofString "asks",Str.ofString "asleep",Str.ofString "attach",Str.ofString "awake",Str.ofString "b",Str.ofString "back",Str.ofString "bad kind",Str.ofString "bad mode",Str.ofString "bad stretch",Str.ofString "begin",Str.ofString "blocker",Str.ofString "both",Str.ofString "c",Str.ofString "cancel",Str.ofString "cancelled",Str.ofString "changes",Str.ofString "close",Str.ofString "count",Str.ofString "deeds",Str.ofString "do",Str.ofString "drop",Str.ofString "dup",Str.ofString "end",Str.ofString "ended",Str.ofString "ending",Str.ofString "fair",Str.ofString "file",Str.ofString "files",Str.ofString "fork",Str.ofString "fresh",Str.ofString "future",Str.ofString "given",Str.ofString "granted",Str.ofString "handles",Str.ofString "held",Str.ofString "is wrong",Str.ofString "is_asleep",Str.ofString "leads",Str.ofString "lock",Str.ofString "lock_whole",Str.ofString "locks",Str.ofString "mark",Str.ofString "no ask",Str.ofString "no back",Str.ofString "no file",Str.ofString "no handle",Str.ofString "no mark",Str.ofString "no task",Str.ofString "no text",Str.ofString "odd",Str.ofString "opened",Str.ofString "outcome",Str.ofString "outcomes",Str.ofString "past",Str.ofString "perform",Str.ofString "probe",Str.ofString "put",Str.ofString "read",Str.ofString "rests",Str.ofString "shared",Str.ofString "stuck",Str.ofString "tables",Str.ofString "task",Str.ofString "tasks",Str.ofString "told",Str.ofString "undo_to",Str.ofString "undone",Str.ofString "unlock",Str.ofString "unlock_whole",Str.ofString "waiting",Str.ofString "waits",Str.ofString "whole",Str.ofString "whole_locks",Str.ofString "why",Str.ofString "write",Str.ofString "zz"]
theorem tR:bf.Nodup:=by decide +kernel
theorem lQ {α:Type} {xs:List α} (h:xs.Nodup) {i j:Nat} {x:α} (h1:xs[i]? = some x) (h2:xs[j]? = some x):i = j:=by
 obtain ⟨a,e1⟩:=List.getElem?_eq_some_iff.mp h1
 obtain ⟨b,e2⟩:=List.getElem?_eq_some_iff.mp h2
 have p:=List.pairwise_iff_getElem.mp h
 rcases Nat.lt_trichotomy i j with q | q | q
 ·exact absurd (e1.trans e2.symm) (p i j a b q)
 ·exact q
 ·exact absurd (e2.trans e1.symm) (p j i b a q)
theorem d9 {i j:Nat} {x:Str} (h1:bf[i]? = some x) (h2:bf[j]? = some x):i = j:=by
 exact lQ tR h1 h2
def lR:List Nat:=[31,29,35,41,54,38,75,73,5,56,19,65,57,34]
structure Fx where
 ext:Nat → V
 own:Addr → Prop
 J:Hp → Prop
 st:∀ H H',J H → (∀ b o,(own b ∨ ∃ φ,o = .ext φ) → H b = some o → H' b = some o) → J H'
structure Gy where
 cl:Nat → Addr
 /-- the own errors' classes; the defs that are met as values -/
 xc:Nat → Addr
 fe:Nat → Addr
 /-- the code table that a lambda's code comes into,where the lambda stands,its name -/
 tT:Addr
 tP:Pos
 tQ:Str
 /-- what a law knows of what is fixed from its ii on -/
 dr:Fx → Prop
structure Gx extends Gy where
 E:XK
section
variable (F:Fx) (y:Option Int) (ρ:List Addr) (H:Hp)
def jj:AV → (V → Prop) × (List V → Prop)
 | .non=>(fun v=>v = .non,fun _=>False)
 | .bl b=>(fun v=>v = .bl b,fun _=>False)
 | .int false lo hi=>(fun v=>∃ z,v = .int z ∧ lo ≤ z ∧ z ≤ hi,fun _=>False)
 | .int true lo hi=>(fun v=>∃ x z,y = some x ∧ v = .int z ∧ x + lo ≤ z ∧ z ≤ x + hi,fun _=>False)
 | .str i=>(fun v=>∃ x,bf[i]? = some x ∧ v = .str x,fun _=>False)
 | .ref n=>(fun v=>∃ a,ρ[n]? = some a ∧ v = .ref a,fun _=>False)
 | .ext i=>(fun v=>v = F.ext i,fun _=>False)
 | .tn=>(fun v=>∃ a,v = .ref a ∧ H a = some (.tup []),fun ws=>ws = [])
 | .tc h t=>(fun v=>∃ a w ws,v = .ref a ∧ H a = some (.tup (w :: ws)) ∧ (jj h).1 w ∧ (jj t).2 ws,fun ws=>∃ w r,ws = w :: r ∧ (jj h).1 w ∧ (jj t).2 r)
abbrev aY (av:AV) (v:V):Prop:=(jj F y ρ H av).1 v
abbrev z9 (av:AV) (vs:List V):Prop:=(jj F y ρ H av).2 vs
abbrev aX:List AV → List V → Prop:=Paired (aY F y ρ H)
def eV:Option AV → Option V → Prop
 | none,_=>True
 | some a,some v=>aY F y ρ H a v
 | _,_=>False
abbrev ij:List (Option AV) → St → Prop:=Paired (eV F y ρ H)
def gG:AV → bj → Prop
 | .int false lo hi,k=>lo = hi ∧ k = .inl lo
 | .str i,k=>∃ x,bf[i]? = some x ∧ k = .inr x
 | _,_=>False
def fY:AV → List bj → Prop
 | .tn,ks=>ks = []
 | .tc h t,ks=>∃ k r,ks = k :: r ∧ gG h k ∧ fY t r
 | _,_=>False
def fV (g:Gx):AO → HO → Prop
 | .lst xs,o=>∃ vs,o = .lst vs ∧ aX F y ρ H xs vs
 | .dk kvs,o=>∃ ks,o = .dK ks ∧ Paired (fun p q=>gG p.1 q.1 ∧ aY F y ρ H p.2 q.2) kvs ks
 | .dt kvs,o=>∃ ks,o = .dT ks ∧ Paired (fun p q=>fY p.1 q.1 ∧ aY F y ρ H p.2 q.2) kvs ks
 | .ins c fs,o=>∃ dx gs,(c < 2 ∧ o = .ins (g.cl c) dx gs ∧ ∀ p ∈ fs,p.1 ∈ lR) ∧ Paired (fun p q=>bf[p.1]? = some q.1 ∧ aY F y ρ H p.2 q.2) fs gs
 | .fz a,o=>∃ ob u,o = .frz ob u ∧ fV g a u
end
structure Jn (g:Gx) (F:Fx):Prop where
 dr:g.dr F
 own:F.own g.tT
 lam:∀ H,F.J H → kO H g.tT g.tP g.tQ
 re:∀ H H',F.J H → kO H' g.tT g.tP g.tQ → (∀ b o,b ≠ g.tT → H b = some o → H' b = some o) → F.J H'
structure aM (g:Gx) (F:Fx) (y:Option Int) (ρ:List Addr) (S:aT) (H:Hp):Prop where
 n:S.n = ρ.length
 sym:S.sym = y.isSome
 pos:∀ x,y = some x → 1 ≤ x
 nd:ρ.Nodup
 at_:∀ i a,ρ[i]? = some a → ∃ o ho,S.t.get i = some o ∧ H a = some ho ∧ fV F y ρ H g o ho
 own:∀ a ∈ ρ,¬ F.own a
 fe:∀ i,i < 11 → F.ext i = .ref (g.fe i)
 ol:∀ b,F.own b → H b ≠ none
 J:F.J H
 fl:Jn g F
structure aD (F:Fx) (y:Option Int) (ρ:List Addr) (H:Hp) (y':Option Int) (ρ':List Addr) (H':Hp):Prop where
 y:∀ x,y = some x → y' = some x
 pre:∃ r,ρ' = ρ ++ r
 new:∀ a ∈ ρ',a ∈ ρ ∨ H a = none
 keep:∀ b o,H b = some o → b ∉ ρ → ¬ F.own b → H' b = some o
 tup:∀ b vs,H b = some (.tup vs) → H' b = some (.tup vs)
 live:∀ b,H' b = none → H b = none
 frz:∀ b o u,H b = some (.frz o u) → H' b = some (.frz o u)
section
variable {g:Gx} {F:Fx} {y y1 y2:Option Int} {ρ ρ1 ρ2:List Addr} {H H1 H2:Hp} {S S1:aT}
theorem aD.refl:aD F y ρ H y ρ H:=⟨fun _ h=>h,⟨[],by simp⟩,fun _ h=>.inl h,fun _ _ h _ _=>h,fun _ _ h=>h,fun _ h=>h,fun _ _ _ h=>h⟩
theorem aD.trans (a:aD F y ρ H y1 ρ1 H1) (b:aD F y1 ρ1 H1 y2 ρ2 H2):aD F y ρ H y2 ρ2 H2:=by
 refine ⟨fun x h=>b.y x (a.y x h),?_,fun c hc=>?_,fun c o h n w=>?_,fun c vs h=>b.tup c vs (a.tup c vs h),fun c h=>a.live c (b.live c h),fun c o u h=>b.frz c o u (a.frz c o u h)⟩
 ·obtain ⟨r,rfl⟩:=a.pre
  obtain ⟨r',rfl⟩:=b.pre
  exact ⟨r ++ r',by simp⟩
 ·rcases b.new c hc with h | h
  ·exact a.new c h
  ·exact .inr (a.live c h)
 ·refine b.keep c o (a.keep c o h n w) (fun m=>?_) w
  rcases a.new c m with h' | h'
  ·exact n h'
  ·rw [h'] at h; cases h
structure oO (F:Fx) (y:Option Int) (ρ:List Addr) (H:Hp) (y':Option Int) (ρ':List Addr) (H':Hp):Prop where
 y:∀ x,y = some x → y' = some x
 pre:∃ r,ρ' = ρ ++ r
 new:∀ a ∈ ρ',a ∈ ρ ∨ H a = none
 keep:∀ b o,H b = some o → b ∉ ρ → ¬ F.own b → H' b = some o
 tup:∀ b vs,H b = some (.tup vs) → H' b = some (.tup vs)
 live:∀ b,H' b = none → H b = none
theorem aD.to0 (a:aD F y ρ H y1 ρ1 H1):oO F y ρ H y1 ρ1 H1:=⟨a.y,a.pre,a.new,a.keep,a.tup,a.live⟩
theorem oO.trans (a:oO F y ρ H y1 ρ1 H1) (b:oO F y1 ρ1 H1 y2 ρ2 H2):oO F y ρ H y2 ρ2 H2:=by
 refine ⟨fun x h=>b.y x (a.y x h),?_,fun c hc=>?_,fun c o h n w=>?_,fun c vs h=>b.tup c vs (a.tup c vs h),fun c h=>a.live c (b.live c h)⟩
 ·obtain ⟨r,rfl⟩:=a.pre
  obtain ⟨r',rfl⟩:=b.pre
  exact ⟨r ++ r',by simp⟩
 ·rcases b.new c hc with h | h
  ·exact a.new c h
  ·exact .inr (a.live c h)
 ·refine b.keep c o (a.keep c o h n w) (fun m=>?_) w
  rcases a.new c m with h' | h'
  ·exact n h'
  ·rw [h'] at h; cases h
theorem aD.mem (a:aD F y ρ H y1 ρ1 H1) {i:Nat} {c:Addr} (h:ρ[i]? = some c):ρ1[i]? = some c:=by
 obtain ⟨r,rfl⟩:=a.pre
 obtain ⟨hi,e⟩:=List.getElem?_eq_some_iff.mp h
 rw [List.getElem?_append_left hi]; exact h
structure Mo (y:Option Int) (ρ:List Addr) (H:Hp) (y':Option Int) (ρ':List Addr) (H':Hp):Prop where
 y:∀ x,y = some x → y' = some x
 mem:∀ {i:Nat} {c:Addr},ρ[i]? = some c → ρ'[i]? = some c
 tup:∀ b vs,H b = some (.tup vs) → H' b = some (.tup vs)
theorem aD.mo (a:aD F y ρ H y1 ρ1 H1):Mo y ρ H y1 ρ1 H1:=⟨a.y,fun h=>a.mem h,a.tup⟩
theorem jj.mono (a:Mo y ρ H y1 ρ1 H1):∀ av:AV,(∀ v,(jj F y ρ H av).1 v → (jj F y1 ρ1 H1 av).1 v) ∧ ∀ vs,(jj F y ρ H av).2 vs → (jj F y1 ρ1 H1 av).2 vs
 | .non=>⟨fun _ h=>h,fun _ h=>h⟩
 | .bl _=>⟨fun _ h=>h,fun _ h=>h⟩
 | .int false _ _=>⟨fun _ h=>h,fun _ h=>h⟩
 | .int true _ _=>⟨fun _ ⟨x,z,h1,h2⟩=>⟨x,z,a.y x h1,h2⟩,fun _ h=>h⟩
 | .str _=>⟨fun _ h=>h,fun _ h=>h⟩
 | .ref n=>⟨fun _ ⟨c,h1,h2⟩=>⟨c,a.mem h1,h2⟩,fun _ h=>h⟩
 | .ext _=>⟨fun _ h=>h,fun _ h=>h⟩
 | .tn=>⟨fun _ ⟨c,h1,h2⟩=>⟨c,h1,a.tup _ _ h2⟩,fun _ h=>h⟩
 | .tc h t=>⟨fun _ ⟨c,w,ws,h1,h2,h3,h4⟩=>⟨c,w,ws,h1,a.tup _ _ h2,(jj.mono a h).1 _ h3,(jj.mono a t).2 _ h4⟩,fun _ ⟨w,r,h1,h2,h3⟩=>⟨w,r,h1,(jj.mono a h).1 _ h2,(jj.mono a t).2 _ h3⟩⟩
theorem aY.monoM (a:Mo y ρ H y1 ρ1 H1) {av:AV} {v:V} (h:aY F y ρ H av v):aY F y1 ρ1 H1 av v:=(jj.mono a av).1 v h
theorem aY.mono (a:aD F y ρ H y1 ρ1 H1) {av:AV} {v:V} (h:aY F y ρ H av v):aY F y1 ρ1 H1 av v:=aY.monoM a.mo h
theorem a0 {α β:Type} {R R':α → β → Prop} (h:∀ a b,R a b → R' a b) {xs:List α} {ys:List β} (p:Paired R xs ys):Paired R' xs ys:=Paired.mapP p h
theorem aX.mono (a:aD F y ρ H y1 ρ1 H1) {xs:List AV} (h:aX F y ρ H xs vs):aX F y1 ρ1 H1 xs vs:=a0 (fun _ _=>aY.mono a) h
theorem eV.mono (a:aD F y ρ H y1 ρ1 H1) {x:Option AV} {v:Option V} (h:eV F y ρ H x v):eV F y1 ρ1 H1 x v:=by
 cases x with
 | none=>trivial
 | some x=>cases v with
  | none=>exact h
  | some v=>exact aY.mono a (av:=x) h
theorem ij.mono (a:aD F y ρ H y1 ρ1 H1) {xs:List (Option AV)} {vs:St} (h:ij F y ρ H xs vs):ij F y1 ρ1 H1 xs vs:=a0 (fun _ _=>eV.mono a) h
def Kw (F:Fx) (y:Option Int) (ρ:List Addr) (H:Hp) (av:AV):Option Addr → Prop
 | none=>av = .non
 | some dx=>∃ v,H dx = some (.xd [("blocker",v)]) ∧ aY F y ρ H av v
abbrev KE:=Nat → AV → aT → Bool
def kP (g:Gx) (F:Fx) (y:Option Int) (ρ:List Addr) (H:Hp) (ke:KE):Prop :=
 ∀ y' ρ' S' H' c av d,oO F y ρ H y' ρ' H' → aM g F y' ρ' S' H' → Kw F y' ρ' H' av d → ke c av S' = true → g.E (.ref (g.xc c)) d H'
theorem kP.mono0 {ke:KE} (p:kP g F y ρ H ke) (a:oO F y ρ H y1 ρ1 H1):kP g F y1 ρ1 H1 ke:=fun y' ρ' S' H' c av d b=>p y' ρ' S' H' c av d (a.trans b)
theorem kP.mono {ke:KE} (p:kP g F y ρ H ke) (a:aD F y ρ H y1 ρ1 H1):kP g F y1 ρ1 H1 ke:=p.mono0 a.to0
structure eD where
 v:List (Option AV)
 ke:KE
structure bE (g:Gx) (F:Fx) (y:Option Int) (ρ:List Addr) (H:Hp) (σa:eD) (σ:St):Prop where
 v:ij F y ρ H σa.v σ
 e:kP g F y ρ H σa.ke
theorem bE.mono (a:aD F y ρ H y1 ρ1 H1) {xs:eD} {vs:St} (h:bE g F y ρ H xs vs):bE g F y1 ρ1 H1 xs vs:=⟨ij.mono a h.v,h.e.mono a⟩
theorem fV.monoM (a:Mo y ρ H y1 ρ1 H1):∀ {o:AO} {ho:HO},fV F y ρ H g o ho → fV F y1 ρ1 H1 g o ho:=by
 intro o ho h
 cases o with
 | lst xs=>obtain ⟨vs,e,h⟩:=h; exact ⟨vs,e,a0 (fun _ _=>aY.monoM a) h⟩
 | dk kvs=>obtain ⟨vs,e,h⟩:=h; exact ⟨vs,e,a0 (fun _ _ q=>⟨q.1,aY.monoM a q.2⟩) h⟩
 | dt kvs=>obtain ⟨vs,e,h⟩:=h; exact ⟨vs,e,a0 (fun _ _ q=>⟨q.1,aY.monoM a q.2⟩) h⟩
 | ins c fs=>obtain ⟨dx,vs,e,h⟩:=h; exact ⟨dx,vs,e,a0 (fun _ _ q=>⟨q.1,aY.monoM a q.2⟩) h⟩
 | fz o=>obtain ⟨ob,u,e,h⟩:=h; exact ⟨ob,u,e,fV.monoM a h⟩
theorem fV.mono (a:aD F y ρ H y1 ρ1 H1) {o:AO} {ho:HO} (h:fV F y ρ H g o ho):fV F y1 ρ1 H1 g o ho:=fV.monoM a.mo h
def chain:List AV → AV
 | []=>.tn
 | x :: r=>.tc x (chain r)
def vH:AV → Option (List AV)
 | .tn=>some []
 | .tc h t=>match vH t with
  | some r=>some (h :: r)
  | none=>none
 | _=>none
theorem fB:∀ {t:AV} {xs:List AV},vH t = some xs → t = chain xs
 | .tn,xs,h=>by cases h; rfl
 | .tc a t,xs,h=>by
  unfold vH at h
  cases e:vH t with
  | none=>rw [e] at h; cases h
  | some r=>rw [e] at h; cases h; rw [fB e]; rfl
 | .non,_,h=>by cases h
 | .bl _,_,h=>by cases h
 | .int _ _ _,_,h=>by cases h
 | .str _,_,h=>by cases h
 | .ref _,_,h=>by cases h
 | .ext _,_,h=>by cases h
theorem nQ:∀ {xs:List AV} {vs:List V},aX F y ρ H xs vs → z9 F y ρ H (chain xs) vs
 | _,_,.nil=>rfl
 | _,_,.cons r t=>⟨_,_,rfl,r,nQ t⟩
theorem lS:∀ {xs:List AV} {vs:List V},z9 F y ρ H (chain xs) vs → aX F y ρ H xs vs
 | [],_,h=>by cases h; exact .nil
 | x :: r,_,⟨w,ws,e,h1,h2⟩=>by subst e; exact .cons h1 (lS h2)
theorem aY.chain_of {xs:List AV} {v:V} (h:aY F y ρ H (chain xs) v):∃ a vs,v = .ref a ∧ H a = some (.tup vs) ∧ aX F y ρ H xs vs:=by
 cases xs with
 | nil=>obtain ⟨a,e,h⟩:=h; exact ⟨a,[],e,h,.nil⟩
 | cons x r=>obtain ⟨a,w,ws,e,h,h1,h2⟩:=h; exact ⟨a,w :: ws,e,h,.cons h1 (lS h2)⟩
theorem aY.chain {xs:List AV} {a:Addr} (h:H a = some (.tup vs)) (r:aX F y ρ H xs vs):aY F y ρ H (RB.chain xs) (.ref a):=by
 cases r with
 | nil=>exact ⟨a,rfl,h⟩
 | cons r t=>exact ⟨a,_,_,rfl,h,r,nQ t⟩
theorem aM.live (C:aM g F y ρ S H) {a:Addr} (h:a ∈ ρ):∃ ho,H a = some ho ∧ ∀ vs,ho ≠ .tup vs:=by
 obtain ⟨i,e⟩:=List.getElem?_of_mem h
 obtain ⟨o,ho,_,h2,h3⟩:=C.at_ i a e
 refine ⟨ho,h2,fun vs z=>?_⟩
 subst z
 cases o with
 | lst _=>obtain ⟨_,e,_⟩:=h3; cases e
 | dk _=>obtain ⟨_,e,_⟩:=h3; cases e
 | dt _=>obtain ⟨_,e,_⟩:=h3; cases e
 | ins _ _=>obtain ⟨_,_,⟨_,e,_⟩,_⟩:=h3; cases e
 | fz _=>obtain ⟨_,_,e,_⟩:=h3; cases e
theorem aM.notExt (C:aM g F y ρ S H) {a:Addr} {u:HO} (h:a ∈ ρ) (e:H a = some u) (w:F.own a ∨ ∃ φ,u = .ext φ):False:=by
 rcases w with w | ⟨φ,w⟩
 ·exact C.own a h w
 ·subst w
  obtain ⟨i,e1⟩:=List.getElem?_of_mem h
  obtain ⟨o,ho,_,h2,h3⟩:=C.at_ i a e1
  rw [e] at h2
  cases h2
  cases o with
  | lst _=>obtain ⟨_,e,_⟩:=h3; cases e
  | dk _=>obtain ⟨_,e,_⟩:=h3; cases e
  | dt _=>obtain ⟨_,e,_⟩:=h3; cases e
  | ins _ _=>obtain ⟨_,_,⟨_,e,_⟩,_⟩:=h3; cases e
  | fz _=>obtain ⟨_,_,e,_⟩:=h3; cases e
theorem aM.fresh (C:aM g F y ρ S H) {p:Addr} (h:H p = none):p ∉ ρ:=fun m=>by
 obtain ⟨ho,e,_⟩:=C.live m
 rw [h] at e; cases e
theorem aM.has (C:aM g F y ρ S H) {i:Nat} (hi:i < S.n):S.t.has i:=by
 rw [C.n] at hi
 obtain ⟨o,_,e,_⟩:=C.at_ i ρ[i] (by simp [hi])
 exact Tr.has_of_get _ _ _ e
theorem aD.lay {p:Addr} {o:HO} (h:H p = none):aD F y ρ H y ρ (upd H p o):=by
 have ne:∀ b u,H b = some u → b ≠ p:=fun b u e z=>by subst z; rw [h] at e; cases e
 refine ⟨fun _ h=>h,⟨[],by simp⟩,fun _ h=>.inl h,fun b u e _ _=>?_,fun b vs e=>?_,fun b e=>?_,fun b o u e=>?_⟩
 ·rw [am (ne b u e)]; exact e
 ·rw [am (ne b _ e)]; exact e
 ·by_cases z:b = p
  ·rw [z]; exact h
  ·rw [am z] at e; exact e
 ·rw [am (ne b _ e)]; exact e
theorem aM.step (C:aM g F y ρ S H) (a:aD F y ρ H y ρ H1) (k:∀ b ∈ ρ,H1 b = H b) (j:F.J H1):aM g F y ρ S H1:=by
 refine ⟨C.n,C.sym,C.pos,C.nd,fun i c e=>?_,C.own,C.fe,fun b w e=>C.ol b w (a.live b e),j,C.fl⟩
 obtain ⟨o,ho,h1,h2,h3⟩:=C.at_ i c e
 exact ⟨o,ho,h1,by rw [k c (List.mem_of_getElem? e)]; exact h2,fV.mono a h3⟩
theorem aM.lay (C:aM g F y ρ S H) {p:Addr} {o:HO} (h:H p = none):aM g F y ρ S (upd H p o):=by
 refine C.step (aD.lay h) (fun b hb=>am fun z=>C.fresh h (z ▸ hb)) (F.st _ _ C.J fun b u _ e=>?_)
 have:b ≠ p:=fun z=>by subst z; rw [h] at e; cases e
 rw [am this]; exact e
def aT.add (S:aT) (o:AO):aT:=⟨S.n + 1,S.sym,S.t.put S.n o⟩
theorem aD.add {p:Addr} {o:HO} (h:H p = none):aD F y ρ H y (ρ ++ [p]) (upd H p o):=by
 have a:aD F y ρ H y ρ (upd H p o):=aD.lay h
 refine ⟨a.y,⟨[p],rfl⟩,fun c hc=>?_,a.keep,a.tup,a.live,a.frz⟩
 rcases List.mem_append.mp hc with h' | h'
 ·exact .inl h'
 ·rw [List.mem_singleton.mp h']; exact .inr h
theorem aM.add (C:aM g F y ρ S H) {p:Addr} {o:AO} {ho:HO} (h:H p = none) (ob:fV F y (ρ ++ [p]) (upd H p ho) g o ho):aM g F y (ρ ++ [p]) (S.add o) (upd H p ho):=by
 have hp:=C.fresh h
 have st:aD F y ρ H y (ρ ++ [p]) (upd H p ho):=aD.add h
 have hfull:S.t.has S.n ∨ ∀ i,i < S.n → S.t.has i:=.inr fun i hi=>C.has hi
 refine ⟨by simp [aT.add,C.n],C.sym,C.pos,?_,fun i c e=>?_,fun c hc=>?_,C.fe,fun b w e=>C.ol b w (st.live b e),F.st _ _ C.J fun b u _ e=>?_,C.fl⟩
 ·rw [List.nodup_append]
  exact ⟨C.nd,by simp,fun a ha b hb e=>by rw [List.mem_singleton.mp hb] at e; exact hp (e ▸ ha)⟩
 ·by_cases hi:i < ρ.length
  ·have e':ρ[i]? = some c:=by rw [List.getElem?_append_left hi] at e; exact e
   obtain ⟨o',ho',h1,h2,h3⟩:=C.at_ i c e'
   refine ⟨o',ho',?_,?_,fV.mono st h3⟩
   ·show (S.t.put S.n o).get i = _
    rw [Tr.put_ne _ _ _ _ hfull (by rw [C.n]; omega)]; exact h1
   ·rw [am fun z=>hp (by rw [← z]; exact List.mem_of_getElem? e')]; exact h2
  ·have hi':i = ρ.length:=by
    have:=(List.getElem?_eq_some_iff.mp e).1
    simp at this; omega
   subst hi'
   have:c = p:=by simpa using e.symm
   subst this
   refine ⟨o,ho,?_,aC,ob⟩
   show (S.t.put S.n o).get ρ.length = _
   rw [← C.n]
   exact Tr.put_same _ _ _ hfull
 ·rcases List.mem_append.mp hc with h' | h'
  ·exact C.own c h'
  ·rw [List.mem_singleton.mp h']; exact fun w=>C.ol p w h
 ·have:b ≠ p:=fun z=>by subst z; rw [h] at e; cases e
  rw [am this]; exact e
def aT.set (S:aT) (i:Nat) (o:AO):aT:=⟨S.n,S.sym,S.t.put i o⟩
theorem aD.set (C:aM g F y ρ S H) {i:Nat} {a:Addr} {o ho:HO} (h:ρ[i]? = some a) (e0:H a = some ho) (nf:∀ o u,ho ≠ .frz o u:=by intro _ _ z; cases z):aD F y ρ H y ρ (upd H a o):=by
 have m:=List.mem_of_getElem? h
 obtain ⟨ho',e0',nt⟩:=C.live m
 rw [e0] at e0'; cases e0'
 refine ⟨fun _ h=>h,⟨[],by simp⟩,fun _ h=>.inl h,fun b u e n _=>?_,fun b vs e=>?_,fun b e=>?_,fun b o u e=>?_⟩
 ·rw [am fun z=>n (by rw [z]; exact m)]; exact e
 ·have:b ≠ a:=fun z=>by
   subst z
   rw [e0] at e; cases e
   exact nt vs rfl
  rw [am this]; exact e
 ·by_cases z:b = a
  ·subst z; rw [aC] at e; cases e
  ·rw [am z] at e; exact e
 ·have:b ≠ a:=fun z=>by
   subst z
   rw [e0] at e; cases e
   exact nf _ _ rfl
  rw [am this]; exact e
theorem aM.set (C:aM g F y ρ S H) {i:Nat} {a:Addr} {o:AO} {ho ho1:HO} (h:ρ[i]? = some a) (e0:H a = some ho1) (nf:∀ o u,ho1 ≠ .frz o u:=by intro _ _ z; cases z) (ob:fV F y ρ (upd H a ho) g o ho):aM g F y ρ (S.set i o) (upd H a ho):=by
 have m:=List.mem_of_getElem? h
 have st:aD F y ρ H y ρ (upd H a ho):=aD.set C h e0 nf
 have hi:i < S.n:=by rw [C.n]; exact (List.getElem?_eq_some_iff.mp h).1
 have hfull:S.t.has i ∨ ∀ j,j < i → S.t.has j:=.inl (C.has hi)
 refine ⟨C.n,C.sym,C.pos,C.nd,fun j c e=>?_,C.own,C.fe,fun b w e=>C.ol b w (st.live b e),F.st _ _ C.J fun b u w e=>?_,C.fl⟩
 ·by_cases z:j = i
  ·subst z
   rw [h] at e; cases e
   exact ⟨o,ho,Tr.put_same _ _ _ hfull,aC,ob⟩
  ·obtain ⟨o',ho',h1,h2,h3⟩:=C.at_ j c e
   refine ⟨o',ho',?_,?_,fV.mono st h3⟩
   ·show (S.t.put i o).get j = _
    rw [Tr.put_ne _ _ _ _ hfull z]; exact h1
   ·rw [am]
    ·exact h2
    ·intro w
     subst w
     exact z (lQ C.nd e h)
 ·rw [am fun z=>by subst z; exact C.notExt m e w]; exact e
theorem aD.thaw (st:aD F y ρ H y1 ρ1 H1) {a:Addr} {u:HO} (hm:a ∈ ρ) (ha:H a = some u) (nt:∀ vs,u ≠ .tup vs) (nf:∀ o w,u ≠ .frz o w):aD F y ρ H y1 ρ1 (upd H1 a u):=by
 refine ⟨st.y,st.pre,st.new,fun b o e n w=>?_,fun b vs e=>?_,fun b e=>?_,fun b o w e=>?_⟩
 ·rw [am fun z=>n (by rw [z]; exact hm)]; exact st.keep b o e n w
 ·rw [am fun z=>by rw [z,ha] at e; exact nt vs (Option.some.inj e)]; exact st.tup b vs e
 ·by_cases z:b = a
  ·subst z; rw [aC] at e; cases e
  ·rw [am z] at e; exact st.live b e
 ·rw [am fun z=>by rw [z,ha] at e; exact nf o w (Option.some.inj e)]; exact st.frz b o w e
theorem aM.thaw (C:aM g F y ρ S H) {n:Nat} {a:Addr} {ob:Obj} {u:HO} {o:AO} (h:ρ[n]? = some a) (e:H a = some (.frz ob u)) (q:S.t.get n = some (.fz o)):aM g F y ρ (S.set n o) (upd H a u):=by
 have m:=List.mem_of_getElem? h
 have mo:Mo y ρ H y ρ (upd H a u):=⟨fun _ h=>h,fun h=>h,fun b vs q=>by rw [am fun z=>by rw [z,e] at q; cases q]; exact q⟩
 have hi:n < S.n:=by rw [C.n]; exact (List.getElem?_eq_some_iff.mp h).1
 have hfull:S.t.has n ∨ ∀ j,j < n → S.t.has j:=.inl (C.has hi)
 refine ⟨C.n,C.sym,C.pos,C.nd,fun j c ec=>?_,C.own,C.fe,fun b w ec=>?_,F.st _ _ C.J fun b u w ec=>?_,C.fl⟩
 ·by_cases z:j = n
  ·subst z
   rw [h] at ec; cases ec
   obtain ⟨o',ho',h1,h2,h3⟩:=C.at_ j a h
   rw [q] at h1; cases h1
   rw [e] at h2; cases h2
   obtain ⟨ob1,u1,e1,h4⟩:=h3
   cases e1
   exact ⟨o,u,Tr.put_same _ _ _ hfull,aC,fV.monoM mo h4⟩
  ·obtain ⟨o',ho',h1,h2,h3⟩:=C.at_ j c ec
   refine ⟨o',ho',?_,?_,fV.monoM mo h3⟩
   ·show (S.t.put n o).get j = _
    rw [Tr.put_ne _ _ _ _ hfull z]; exact h1
   ·rw [am]
    ·exact h2
    ·intro w
     subst w
     exact z (lQ C.nd ec h)
 ·by_cases z:b = a
  ·subst z; rw [aC] at ec; cases ec
  ·rw [am z] at ec; exact C.ol b w ec
 ·rw [am fun z=>by subst z; exact C.notExt m ec w]; exact ec
def jk (g:Gx) (F:Fx) (y:Option Int) (ρ:List Addr) (H:Hp) (k:AV → aT → Bool) (Q:VK):Prop :=
 ∀ y' ρ' S' H' av v,aD F y ρ H y' ρ' H' → aM g F y' ρ' S' H' → aY F y' ρ' H' av v → k av S' = true → Q v H'
def rZ (g:Gx) (F:Fx) (y:Option Int) (ρ:List Addr) (H:Hp) (k:Bool → aT → Bool) (Q:Bool → Hp → Prop):Prop :=
 ∀ y' ρ' S' H' b,aD F y ρ H y' ρ' H' → aM g F y' ρ' S' H' → k b S' = true → Q b H'
def Jo (g:Gx) (F:Fx) (y:Option Int) (ρ:List Addr) (H:Hp) (k:List AV → aT → Bool) (Q:List V → Hp → Prop):Prop :=
 ∀ y' ρ' S' H' av v,aD F y ρ H y' ρ' H' → aM g F y' ρ' S' H' → aX F y' ρ' H' av v → k av S' = true → Q v H'
def kR (g:Gx) (F:Fx) (y:Option Int) (ρ:List Addr) (H:Hp) (k:eD → aT → Bool) (Q:St → Hp → Prop):Prop :=
 ∀ y' ρ' S' H' σa σ,aD F y ρ H y' ρ' H' → aM g F y' ρ' S' H' → bE g F y' ρ' H' σa σ → k σa S' = true → Q σ H'
theorem jk.mono {k:AV → aT → Bool} {Q:VK} (p:jk g F y ρ H k Q) (a:aD F y ρ H y1 ρ1 H1):jk g F y1 ρ1 H1 k Q:=fun y' ρ' S' H' av v b=>p y' ρ' S' H' av v (a.trans b)
theorem rZ.mono {k:Bool → aT → Bool} {Q:Bool → Hp → Prop} (p:rZ g F y ρ H k Q) (a:aD F y ρ H y1 ρ1 H1):rZ g F y1 ρ1 H1 k Q:=fun y' ρ' S' H' av b=>p y' ρ' S' H' av (a.trans b)
theorem kR.mono {k:eD → aT → Bool} {Q:St → Hp → Prop} (p:kR g F y ρ H k Q) (a:aD F y ρ H y1 ρ1 H1):kR g F y1 ρ1 H1 k Q:=fun y' ρ' S' H' av v b=>p y' ρ' S' H' av v (a.trans b)
end
abbrev BE:=eD → aT → (AV → aT → Bool) → Bool
abbrev BT:=eD → aT → (Bool → aT → Bool) → Bool
abbrev BA:=eD → aT → (List AV → aT → Bool) → Bool
structure Ds where
 nx:eD → aT → Bool
 rt:AV → aT → Bool
 bk:eD → aT → Bool
 ct:eD → aT → Bool
abbrev BS:=Ds → eD → aT → Bool
abbrev BG:=AV → eD → aT → (eD → aT → Bool) → Bool
section
variable (g:Gx)
def up (b:BE):TE:=fun σ H Q=>∃ F y ρ S σa k,aM g F y ρ S H ∧ bE g F y ρ H σa σ ∧ b σa S k = true ∧ jk g F y ρ H k Q
def fw (b:BT):TT:=fun σ H Q=>∃ F y ρ S σa k,aM g F y ρ S H ∧ bE g F y ρ H σa σ ∧ b σa S k = true ∧ rZ g F y ρ H k Q
def jM (b:BA):TA:=fun σ H Q=>∃ F y ρ S σa k,aM g F y ρ S H ∧ bE g F y ρ H σa σ ∧ b σa S k = true ∧ Jo g F y ρ H k Q
def dh (b:BS):TS:=fun D σ H=>∃ F y ρ S σa d,aM g F y ρ S H ∧ bE g F y ρ H σa σ ∧ b d σa S = true ∧ kR g F y ρ H d.nx D.nx ∧ jk g F y ρ H d.rt D.rt ∧ kR g F y ρ H d.bk D.bk ∧ kR g F y ρ H d.ct D.ct
def Jp (sl:List Nat) (σ σ':St):Prop:=σ'.length = σ.length ∧ ∀ j,j ∉ sl → σ'[j]? = σ[j]?
def F5 (g:Gx) (sl:List Nat) (σ:St) (F:Fx) (y:Option Int) (ρ:List Addr) (H:Hp) (k:eD → aT → Bool) (Q:St → Hp → Prop):Prop :=
 ∀ y' ρ' S' H' σa σ',aD F y ρ H y' ρ' H' → aM g F y' ρ' S' H' → bE g F y' ρ' H' σa σ' → Jp sl σ σ' → k σa S' = true → Q σ' H'
def oP (sl:List Nat) (b:BG):TG:=fun v σ H Q=>∃ F y ρ S av σa k,aM g F y ρ S H ∧ aY F y ρ H av v ∧ bE g F y ρ H σa σ ∧ b av σa S k = true ∧ F5 g sl σ F y ρ H k Q
end
abbrev BF:=List AV → aT → (AV → aT → Bool) → KE → Bool
def r8 (gy:Gy) (n:Nat) (b:BF):Sp:=fun vs H Q E=>∃ F y ρ S avs k ke,aM ⟨gy,E⟩ F y ρ S H ∧ aX F y ρ H avs vs ∧ vs.length = n ∧ b avs S k ke = true ∧ jk ⟨gy,E⟩ F y ρ H k Q ∧ kP ⟨gy,E⟩ F y ρ H ke
theorem PE.imp {e:Expr} {t t':TE} (h:∀ σ H Q,t' σ H Q → t σ H Q) (p:PE X e t):PE X e t':=fun pins s σ H Q I q=>p pins s σ H Q I (h _ _ _ q)
theorem PT.imp {e:Expr} {t t':TT} (h:∀ σ H Q,t' σ H Q → t σ H Q) (p:PT X e t):PT X e t':=fun pins s σ H Q I q=>p pins s σ H Q I (h _ _ _ q)
theorem PW.imp {e:Expr} {t t':TT} (h:∀ σ H Q,t' σ H Q → t σ H Q) (p:PW X e t):PW X e t':=fun wh pins s σ H Q I q=>p wh pins s σ H Q I (h _ _ _ q)
theorem PA.imp {e:List Expr} {t t':TA} (h:∀ σ H Q,t' σ H Q → t σ H Q) (p:PA X e t):PA X e t':=fun pos pins s σ H Q I q=>p pos pins s σ H Q I (h _ _ _ q)
theorem PS.imp {e:Stmt} {t t':TS} (h:∀ D σ H,t' D σ H → t D σ H) (p:PS X e t):PS X e t':=fun pins s σ H D I q=>p pins s σ H D I (h _ _ _ q)
theorem iz.imp {e:List Stmt} {t t':TS} (h:∀ D σ H,t' D σ H → t D σ H) (p:iz X e t):iz X e t':=fun pins s σ H D I q=>p pins s σ H D I (h _ _ _ q)
theorem PG.imp {e:Expr} {t t':TG} (h:∀ v σ H Q,t' v σ H Q → t v σ H Q) (p:PG X e t):PG X e t':=fun pins s σ H v u Q I r q=>p pins s σ H v u Q I r (h _ _ _ _ q)
def Cb:List (Option AV) → Nat → Option AV
 | [],_=>none
 | x :: r,n=>match n with
  | 0=>x
  | n + 1=>Cb r n
def Hi:List (Option AV) → Nat → AV → List (Option AV)
 | [],_,_=>[]
 | x :: r,n,v=>match n with
  | 0=>some v :: r
  | n + 1=>x :: Hi r n v
def JX (σ:eD) (i:Nat):Option AV:=Cb σ.v i
def Cc (σ:eD) (i:Nat) (v:AV):eD:=⟨Hi σ.v i v,σ.ke⟩
def ad (i:Nat):BE:=fun σ S k=>match JX σ i with
 | some v=>k v S
 | none=>false
def bC (v:AV):BE:=fun _ S k=>k v S
def bn (f:AV → AV → aT → (AV → aT → Bool) → Bool) (a b:BE):BE:=fun σ S k=>a σ S fun x S1=>b σ S1 fun y S2=>f x y S2 k
def K9 (f:AV → aT → (AV → aT → Bool) → Bool) (a:BE):BE:=fun σ S k=>a σ S fun x S1=>f x S1 k
def bB (a:BE):BT:=fun σ S k=>a σ S fun x S1=>match x with
 | .bl c=>k c S1
 | _=>false
def Aa (a b:BT):BT:=fun σ S k=>a σ S fun c S1=>match c with
 | true=>b σ S1 k
 | false=>k false S1
def D9 (a b:BT):BT:=fun σ S k=>a σ S fun c S1=>match c with
 | true=>k true S1
 | false=>b σ S1 k
def ni (a:BT):BT:=fun σ S k=>a σ S fun c S1=>k (!c) S1
def vI (a b:BE):BE:=fun σ S k=>a σ S fun x S1=>match x with
 | .bl true=>b σ S1 k
 | .bl false=>k (.bl false) S1
 | _=>false
def Cd (a b:BE):BE:=fun σ S k=>a σ S fun x S1=>match x with
 | .bl true=>k (.bl true) S1
 | .bl false=>b σ S1 k
 | _=>false
def F6 (a:BE):BE:=fun σ S k=>a σ S fun x S1=>match x with
 | .bl c=>k (.bl (!c)) S1
 | _=>false
def Ce (t:BT) (a b:BE):BE:=fun σ S k=>t σ S fun c S1=>match c with
 | true=>a σ S1 k
 | false=>b σ S1 k
def aj:BA:=fun _ S k=>k [] S
def ab (a:BE) (r:BA):BA:=fun σ S k=>a σ S fun x S1=>r σ S1 fun xs S2=>k (x :: xs) S2
def bD (a:BA):BE:=fun σ S k=>a σ S fun xs S1=>match Nat.ble xs.length 1000 with
 | true=>k (chain xs) S1
 | false=>false
def fE (a:BA):BE:=fun σ S k=>a σ S fun xs S1=>match Nat.ble xs.length 1000 with
 | true=>k (.ref S1.n) (S1.add (.lst xs))
 | false=>false
def aB (f:BF) (a:BA):BE:=fun σ S k=>a σ S fun xs S1=>f xs S1 k σ.ke
section
variable {g:Gx} {F:Fx} {S:aT}
theorem oQ:∀ {σa:List (Option AV)} {σ:St} {i:Nat} {av:AV},ij F y ρ H σa σ → Cb σa i = some av → ∃ v,σ[i]? = some (some v) ∧ aY F y ρ H av v
 | _,_,_,_,.nil,e=>by cases e
 | _,_,0,av,.cons (a:=x) (b:=v) r _,e=>by
  change x = some av at e
  subst e
  cases v with
  | none=>exact r.elim
  | some v=>exact ⟨v,rfl,r⟩
 | _,_,i + 1,av,.cons _ t,e=>by
  obtain ⟨v,h1,h2⟩:=oQ (i:=i) (av:=av) t e
  exact ⟨v,by simpa using h1,h2⟩
theorem vJ:∀ {σa:List (Option AV)} {σ:St} {i:Nat} {av:AV} {v:V},ij F y ρ H σa σ → aY F y ρ H av v → ij F y ρ H (Hi σa i av) (σ.set i (some v))
 | _,_,_,_,_,.nil,_=>.nil
 | _,_,0,_,_,.cons _ t,r=>.cons r t
 | _,_,i + 1,_,_,.cons q t,r=>.cons q (vJ (i:=i) t r)
theorem vK {σa:eD} {i:Nat} {av:AV} (h:bE g F y ρ H σa σ) (e:JX σa i = some av):∃ v,σ[i]? = some (some v) ∧ aY F y ρ H av v:=oQ h.v e
theorem dJ {σa:eD} {i:Nat} {av:AV} {v:V} (h:bE g F y ρ H σa σ) (r:aY F y ρ H av v):bE g F y ρ H (Cc σa i av) (σ.set i (some v)):=⟨vJ h.v r,h.e⟩
theorem bO {a b:Nat} (h:Nat.ble a b = true):a ≤ b:=Nat.le_of_ble_eq_true h
def iN (g:Gx) (r:R2) (f:AV → AV → aT → (AV → aT → Bool) → Bool):Prop :=
 ∀ F y ρ S H x z ax az k Q,aM g F y ρ S H → aY F y ρ H ax x → aY F y ρ H az z → f ax az S k = true → jk g F y ρ H k Q → r x z H Q
def Kx (g:Gx) (r:V → Hp → VK → Prop) (f:AV → aT → (AV → aT → Bool) → Bool):Prop :=
 ∀ F y ρ S H x ax k Q,aM g F y ρ S H → aY F y ρ H ax x → f ax S k = true → jk g F y ρ H k Q → r x H Q
def nj (g:Gx) (r:List V → Hp → VK → Prop) (f:List AV → aT → (AV → aT → Bool) → Bool):Prop :=
 ∀ F y ρ S H xs axs k Q,aM g F y ρ S H → aX F y ρ H axs xs → f axs S k = true → jk g F y ρ H k Q → r xs H Q
theorem ay {b:BE} {Q:VK} {σa:eD} {k:AV → aT → Bool} (C:aM g F y ρ S H) (r:bE g F y ρ H σa σ) (h:b σa S k = true)
  (n:∀ y1 ρ1 S1 H1 av v,aD F y ρ H y1 ρ1 H1 → aM g F y1 ρ1 S1 H1 → bE g F y1 ρ1 H1 σa σ → aY F y1 ρ1 H1 av v → k av S1 = true → Q v H1):up g b σ H Q :=
 ⟨F,y,ρ,S,σa,k,C,r,h,fun y1 ρ1 S1 H1 av v st C1 r1 q=>n y1 ρ1 S1 H1 av v st C1 (bE.mono st r) r1 q⟩
theorem eN {b:BT} {Q:Bool → Hp → Prop} {σa:eD} {k:Bool → aT → Bool} (C:aM g F y ρ S H) (r:bE g F y ρ H σa σ) (h:b σa S k = true)
  (n:∀ y1 ρ1 S1 H1 c,aD F y ρ H y1 ρ1 H1 → aM g F y1 ρ1 S1 H1 → bE g F y1 ρ1 H1 σa σ → k c S1 = true → Q c H1):fw g b σ H Q :=
 ⟨F,y,ρ,S,σa,k,C,r,h,fun y1 ρ1 S1 H1 c st C1 q=>n y1 ρ1 S1 H1 c st C1 (bE.mono st r) q⟩
theorem bT {b:BA} {Q:List V → Hp → Prop} {σa:eD} {k:List AV → aT → Bool} (C:aM g F y ρ S H) (r:bE g F y ρ H σa σ) (h:b σa S k = true)
  (n:∀ y1 ρ1 S1 H1 av v,aD F y ρ H y1 ρ1 H1 → aM g F y1 ρ1 S1 H1 → bE g F y1 ρ1 H1 σa σ → aX F y1 ρ1 H1 av v → k av S1 = true → Q v H1):jM g b σ H Q :=
 ⟨F,y,ρ,S,σa,k,C,r,h,fun y1 ρ1 S1 H1 av v st C1 r1 q=>n y1 ρ1 S1 H1 av v st C1 (bE.mono st r) r1 q⟩
theorem jk.here {k:AV → aT → Bool} {Q:VK} (p:jk g F y ρ H k Q) (C:aM g F y ρ S H) {av:AV} {v:V} (r:aY F y ρ H av v) (h:k av S = true):Q v H:=p y ρ S H av v .refl C r h
theorem rZ.here {k:Bool → aT → Bool} {Q:Bool → Hp → Prop} (p:rZ g F y ρ H k Q) (C:aM g F y ρ S H) {b:Bool} (h:k b S = true):Q b H:=p y ρ S H b .refl C h
theorem kR.here {k:eD → aT → Bool} {Q:St → Hp → Prop} (p:kR g F y ρ H k Q) (C:aM g F y ρ S H) {σa:eD} (r:bE g F y ρ H σa σ) (h:k σa S = true):Q σ H:=p y ρ S H σa σ .refl C r h
end
section
variable {g:Gx} {a b c e:Expr} {ba bb:BE} {bt bu:BT} {br:BA} {es rest:List Expr}
theorem Hj (i:Nat) {x:Str} (h:PE X (.Name x pos) (Bb i)):PE X (.Name x pos) (up g (ad i)):=by
 refine PE.imp (fun σ H Q ⟨F,y,ρ,S,σa,k,C,r,h,p⟩=>?_) h
 unfold ad at h
 cases q:JX σa i with
 | none=>rw [q] at h; cases h
 | some av =>
  rw [q] at h
  obtain ⟨v,h1,h2⟩:=vK r q
  exact ⟨v,h1,p.here C h2 h⟩
theorem EN {v:V} {av:AV} (h:PE X e (tC v)) (hr:∀ F y ρ H,aY F y ρ H av v):PE X e (up g (bC av)) :=
 PE.imp (fun σ H Q ⟨F,y,ρ,S,σa,k,C,r,h,p⟩=>p.here C (hr F y ρ H) h) h
theorem ap {i:Int} {j}:PE X (.Constant (.int i) j pos) (up g (bC (.int false i i))):=EN cT fun _ _ _ _=>⟨i,rfl,Int.le_refl _,Int.le_refl _⟩
theorem fF {d:Bool} {j}:PE X (.Constant (.bool d) j pos) (up g (bC (.bl d))):=EN IF fun _ _ _ _=>rfl
theorem iO {j}:PE X (.Constant .none j pos) (up g (bC .non)):=EN Gt fun _ _ _ _=>rfl
theorem aP (i:Nat) {x:Str} {j} (h:bf[i]? = some x:=by decide +kernel):PE X (.Constant (.str x) j pos) (up g (bC (.str i))):=EN gT fun _ _ _ _=>⟨x,h,rfl⟩
theorem tS {r:R2} {f} (hf:iN g r f):∀ σ H Q,up g (bn f ba bb) σ H Q → GJ r (up g ba) (up g bb) σ H Q:=fun σ H Q ⟨F,y,ρ,S,σa,k,C,r,h,p⟩ =>
 ay C r h fun y1 ρ1 S1 H1 ax x st C1 r1 rx h1=>ay C1 r1 h1 fun y2 ρ2 S2 H2 az z st2 C2 r2 rz h2=>hf F y2 ρ2 S2 H2 x z ax az k Q C2 (aY.mono st2 rx) rz h2 (p.mono (st.trans st2))
theorem bP {op:Operator} {r:R2} {f} (ho:kh X (binaryOp op) r) (hf:iN g r f) (ha:PE X a (up g ba)) (hb:PE X b (up g bb)):PE X (.BinOp a op b pos) (up g (bn f ba bb)):=PE.imp (tS hf) (eL ho ha hb)
theorem fG {op:CmpOp} {r:R2} {f} (ho:kh X (compareOp op) r) (hf:iN g r f) (ha:PE X a (up g ba)) (hb:PE X b (up g bb)) (hm:behindInMarks op b = false):PE X (.Compare a [op] [b] pos) (up g (bn f ba bb)):=PE.imp (tS hf) (Ej ho ha hb hm)
theorem fH {t:TE} {d:BE} (h:∀ σ H Q,up g d σ H Q → t σ H Q):∀ σ H Q,fw g (bB d) σ H Q → vj t σ H Q:=fun σ H Q ⟨F,y,ρ,S,σa,k,C,r,q,p⟩ =>
 h σ H _ (ay C r q fun y1 ρ1 S1 H1 ax x st C1 r1 rx h1=>by
  cases ax with
  | bl c =>
   have:x = .bl c:=rx
   subst this
   exact ⟨c,rfl,p y1 ρ1 S1 H1 c st C1 h1⟩
  | _=>cases h1)
theorem bv {op:CmpOp} {r:R2} {f} (ho:kh X (compareOp op) r) (hf:iN g r f) (ha:PE X a (up g ba)) (hb:PE X b (up g bb)) (hm:behindInMarks op b = false):PT X (.Compare a [op] [b] pos) (fw g (bB (bn f ba bb))):=PT.imp (fH (tS hf)) (tq ho ha hb hm)
theorem dM (h:PE X e (up g ba)) (he:∀ whole,isTrue e X.env whole = (do let v ← whole; standAt e.pos; holding [v] (truthy v)):=by with_unfolding_all (intro _; rfl)):PT X e (fw g (bB ba)) :=
 PT.imp (fH (t:=up g ba) fun _ _ _ h=>h) (show PT X e (vj (up g ba)) from Gu h he)
theorem EO:∀ σ H Q,fw g (Aa bt bu) σ H Q → IG (fw g bt) (fw g bu) σ H Q:=fun σ H Q ⟨F,y,ρ,S,σa,k,C,r,h,p⟩ =>
 eN C r h fun y1 ρ1 S1 H1 c st C1 r1 h1=>by
  cases c with
  | true=>exact qx ⟨F,y1,ρ1,S1,σa,k,C1,r1,h1,p.mono st⟩
  | false=>exact qw (p y1 ρ1 S1 H1 false st C1 h1)
theorem Hl:∀ σ H Q,fw g (D9 bt bu) σ H Q → KN (fw g bt) (fw g bu) σ H Q:=fun σ H Q ⟨F,y,ρ,S,σa,k,C,r,h,p⟩ =>
 eN C r h fun y1 ρ1 S1 H1 c st C1 r1 h1=>by
  cases c with
  | false=>exact qw ⟨F,y1,ρ1,S1,σa,k,C1,r1,h1,p.mono st⟩
  | true=>exact qx (p y1 ρ1 S1 H1 true st C1 h1)
theorem nR (ha:PT X a (fw g bt)):PW X (.BoolOp .And [a] pos) (fw g bt):=Ee ha
theorem jN (ha:PT X a (fw g bt)):PW X (.BoolOp .Or [a] pos) (fw g bt):=Gv ha
theorem tU (ha:PT X a (fw g bt)) (hb:PW X (.BoolOp .And (b :: rest) pos) (fw g bu)):PW X (.BoolOp .And (a :: b :: rest) pos) (fw g (Aa bt bu)):=PW.imp EO (Gw ha hb)
theorem mG (ha:PT X a (fw g bt)) (hb:PW X (.BoolOp .Or (b :: rest) pos) (fw g bu)):PW X (.BoolOp .Or (a :: b :: rest) pos) (fw g (D9 bt bu)):=PW.imp Hl (IH ha hb)
theorem fI (ha:PT X a (fw g bt)):PT X (.UnaryOp .Not a pos) (fw g (ni bt)) :=
 PT.imp (fun σ H Q ⟨F,y,ρ,S,σa,k,C,r,h,p⟩=>eN C r h fun y1 ρ1 S1 H1 c st C1 r1 h1=>p y1 ρ1 S1 H1 (!c) st C1 h1) (Gz ha)
theorem g6 {op} (h:PE X a (up g ba)):PE X (.BoolOp op [a] pos) (up g ba):=GA h
theorem tV (ha:PE X a (up g ba)) (hb:PE X (.BoolOp .And (b :: rest) pos) (up g bb)):PE X (.BoolOp .And (a :: b :: rest) pos) (up g (vI ba bb)):=by
 refine PE.imp (fun σ H Q ⟨F,y,ρ,S,σa,k,C,r,h,p⟩=>?_) (GB ha hb)
 refine ay C r h fun y1 ρ1 S1 H1 ax x st C1 r1 rx h1=>?_
 cases ax with
 | bl c =>
  have:x = .bl c:=rx
  subst this
  refine ⟨c,rfl,?_⟩
  cases c with
  | true=>exact qx ⟨F,y1,ρ1,S1,σa,k,C1,r1,h1,p.mono st⟩
  | false=>exact qw (p y1 ρ1 S1 H1 (.bl false) _ st C1 rfl h1)
 | _=>cases h1
theorem yO (ha:PE X a (up g ba)) (hb:PE X (.BoolOp .Or (b :: rest) pos) (up g bb)):PE X (.BoolOp .Or (a :: b :: rest) pos) (up g (Cd ba bb)):=by
 refine PE.imp (fun σ H Q ⟨F,y,ρ,S,σa,k,C,r,h,p⟩=>?_) (IK ha hb)
 refine ay C r h fun y1 ρ1 S1 H1 ax x st C1 r1 rx h1=>?_
 cases ax with
 | bl c =>
  have:x = .bl c:=rx
  subst this
  refine ⟨c,rfl,?_⟩
  cases c with
  | false=>exact qw ⟨F,y1,ρ1,S1,σa,k,C1,r1,h1,p.mono st⟩
  | true=>exact qx (p y1 ρ1 S1 H1 (.bl true) _ st C1 rfl h1)
 | _=>cases h1
theorem Hm (ha:PE X a (up g ba)):PE X (.UnaryOp .Not a pos) (up g (F6 ba)):=by
 refine PE.imp (fun σ H Q ⟨F,y,ρ,S,σa,k,C,r,h,p⟩=>?_) (GC ha)
 refine ay C r h fun y1 ρ1 S1 H1 ax x st C1 r1 rx h1=>?_
 cases ax with
 | bl c =>
  have:x = .bl c:=rx
  subst this
  exact ⟨c,rfl,p y1 ρ1 S1 H1 (.bl (!c)) _ st C1 rfl h1⟩
 | _=>cases h1
theorem de (hc:PT X c (fw g bt)) (ha:PE X a (up g ba)) (hb:PE X b (up g bb)):PE X (.IfExp c a b pos) (up g (Ce bt ba bb)):=by
 refine PE.imp (fun σ H Q ⟨F,y,ρ,S,σa,k,C,r,h,p⟩=>?_) (oi hc ha hb)
 refine eN C r h fun y1 ρ1 S1 H1 d st C1 r1 h1=>?_
 cases d with
 | true=>exact qx ⟨F,y1,ρ1,S1,σa,k,C1,r1,h1,p.mono st⟩
 | false=>exact qw ⟨F,y1,ρ1,S1,σa,k,C1,r1,h1,p.mono st⟩
theorem ae:PA X [] (jM g aj):=PA.imp (fun σ H Q ⟨F,y,ρ,S,σa,k,C,r,h,p⟩=>p y ρ S H [] [] .refl C .nil h) jJ
theorem aa (ha:PE X e (up g ba)) (hr:PA X es (jM g br)) (hs:starEach (e :: es) X.env = (false,eval e X.env) :: starEach es X.env:=by with_unfolding_all rfl):PA X (e :: es) (jM g (ab ba br)) :=
 PA.imp (fun σ H Q ⟨F,y,ρ,S,σa,k,C,r,h,p⟩=>ay C r h fun y1 ρ1 S1 H1 ax x st C1 r1 rx h1=>bT C1 r1 h1 fun y2 ρ2 S2 H2 az z st2 C2 r2 rz h2=>p y2 ρ2 S2 H2 (ax :: az) (x :: z) (st.trans st2) C2 (.cons (aY.mono st2 rx) rz) h2) (fW ha hr hs)
theorem aR {F:Fx} {xs:List AV} (h:aX F y ρ H xs vs):xs.length = vs.length:=Paired.length h
theorem yP {n:Nat} (h:Nat.ble n 1000 = true):n ≤ sizeLine:=Nat.le_of_lt (ce (bO h))
theorem aJ {x1} (h:PA X es (jM g br)):PE X (.Tuple es x1 pos) (up g (bD br)):=by
 refine PE.imp (fun σ H Q ⟨F,y,ρ,S,σa,k,C,r,h,p⟩=>?_) (GP h)
 refine bT C r h fun y1 ρ1 S1 H1 axs xs st C1 r1 rx h1=>?_
 cases q:Nat.ble axs.length 1000 with
 | false=>simp only [q] at h1; cases h1
 | true =>
  simp only [q] at h1
  refine ⟨by rw [← aR rx]; exact yP q,fun pl hp=>?_⟩
  have st2:aD F y1 ρ1 H1 y1 ρ1 (upd H1 pl (.tup xs)):=aD.lay hp
  exact p y1 ρ1 S1 _ (chain axs) _ (st.trans st2) (C1.lay hp) (aY.chain aC (aX.mono st2 rx)) h1
theorem cp (h:PA X es (jM g br)):PE X (.List es pos) (up g (fE br)):=by
 refine PE.imp (fun σ H Q ⟨F,y,ρ,S,σa,k,C,r,h,p⟩=>?_) (GQ h)
 refine bT C r h fun y1 ρ1 S1 H1 axs xs st C1 r1 rx h1=>?_
 cases q:Nat.ble axs.length 1000 with
 | false=>simp only [q] at h1; cases h1
 | true =>
  simp only [q] at h1
  refine ⟨by rw [← aR rx]; exact yP q,fun pl hp=>?_⟩
  have st2:aD F y1 ρ1 H1 y1 (ρ1 ++ [pl]) (upd H1 pl (.lst xs)):=aD.add hp
  exact p y1 _ _ _ (.ref S1.n) _ (st.trans st2) (C1.add (o:=.lst axs) hp ⟨xs,rfl,aX.mono st2 rx⟩) ⟨pl,by rw [C1.n]; simp,rfl⟩ h1
def bJ (n:Nat) (f:BF):BF:=fun xs S k ke=>match Nat.beq xs.length n with
 | true=>f xs S k ke
 | false=>false
theorem Cg {n:Nat} {f:BF}:∀ σ H Q,up g (aB (bJ n f) br) σ H Q → mz (r8 g.toGy n f) [] g.E (jM g br) σ H Q:=fun σ H Q ⟨F,y,ρ,S,σa,k,C,r,h,p⟩ =>
 bT C r h fun y1 ρ1 S1 H1 axs xs st C1 r1 rx h1=>by
  unfold bJ at h1
  cases q:Nat.beq axs.length n with
  | false=>simp only [q] at h1; cases h1
  | true =>
   simp only [q] at h1
   rw [List.append_nil]
   exact ⟨F,y1,ρ1,S1,axs,k,σa.ke,C1,rx,by rw [← aR rx]; exact Nat.eq_of_beq_eq_true q,h1,p.mono st,r1.e⟩
end
def a6:BS:=fun d σ S=>d.nx σ S
def aq (a b:BS):BS:=fun d σ S=>a { d with nx:=b d } σ S
def aK (a:BE):BS:=fun d σ S=>a σ S fun _ S1=>d.nx σ S1
def a7 (a:BE):BS:=fun d σ S=>a σ S d.rt
def Ch:BS:=fun d _ S=>d.rt .non S
def bL (t:BT) (a b:BS):BS:=fun d σ S=>t σ S fun c S1=>match c with
 | true=>a d σ S1
 | false=>b d σ S1
def cO:BS:=fun _ _ _=>false
def ah (i:Nat):BG:=fun v σ S k=>k (Cc σ i v) S
def aZ (a:BE) (t:BG):BS:=fun d σ S=>a σ S fun x S1=>t x σ S1 d.nx
section
variable {g:Gx} {rest:List Stmt} {a b:BS} {e c:Expr} {be:BE} {bt:BT}
theorem aQ:iz X [] (dh g a6):=iz.imp (fun D σ H ⟨F,y,ρ,S,σa,d,C,r,h,p,_⟩=>p.here C r h) yi
theorem af (h1:PS X st (dh g a)) (h2:iz X rest (dh g b)):iz X (st :: rest) (dh g (aq a b)) :=
 iz.imp (fun D σ H ⟨F,y,ρ,S,σa,d,C,r,h,p,pr,pb,pc⟩=>⟨F,y,ρ,S,σa,_,C,r,h,fun y1 ρ1 S1 H1 σ1 σ2 st1 C1 r1 h1=>⟨F,y1,ρ1,S1,σ1,d,C1,r1,h1,p.mono st1,pr.mono st1,pb.mono st1,pc.mono st1⟩,pr,pb,pc⟩) (dE h1 h2)
theorem ai (h1:PS X st (dh g a)):iz X [st] (dh g a):=nJ h1
theorem ar (he:PE X e (up g be)) (hs:swapsWith e none pos.line X.env = pure false:=by with_unfolding_all rfl):PS X (.Expr e pos) (dh g (aK be)) :=
 PS.imp (fun D σ H ⟨F,y,ρ,S,σa,d,C,r,h,p,_⟩=>ay C r h fun y1 ρ1 S1 H1 ax x st C1 r1 rx h1=>p y1 ρ1 S1 H1 σa σ st C1 r1 h1) (Ef he hs)
theorem aE (he:PE X e (up g be)):PS X (.Return (some e) pos) (dh g (a7 be)) :=
 PS.imp (fun D σ H ⟨F,y,ρ,S,σa,d,C,r,h,_,p,_⟩=>⟨F,y,ρ,S,σa,d.rt,C,r,h,p⟩) (tj he)
theorem yQ:PS X (.Return none pos) (dh g Ch):=PS.imp (fun D σ H ⟨F,y,ρ,S,σa,d,C,r,h,_,p,_⟩=>p.here C (av:=.non) rfl h) Eg
theorem a5 {s1 s2:List Stmt} (hc:PT X c (fw g bt)) (ha:iz X s1 (dh g a)) (hb:iz X s2 (dh g b)):PS X (.If c s1 s2 pos) (dh g (bL bt a b)):=by
 refine PS.imp (fun D σ H ⟨F,y,ρ,S,σa,d,C,r,h,p,pr,pb,pc⟩=>?_) (FN hc ha hb)
 refine eN C r h fun y1 ρ1 S1 H1 c st C1 r1 h1=>?_
 cases c with
 | true=>exact qx ⟨F,y1,ρ1,S1,σa,d,C1,r1,h1,p.mono st,pr.mono st,pb.mono st,pc.mono st⟩
 | false=>exact qw ⟨F,y1,ρ1,S1,σa,d,C1,r1,h1,p.mono st,pr.mono st,pb.mono st,pc.mono st⟩
theorem bU:PS X st (dh g cO):=PS.imp (fun D σ H ⟨F,y,ρ,S,σa,d,C,r,h,_⟩=>by cases h) Be
theorem EQ {x:Str} (i:Nat) (h:PG X (.Name x pos) (ig i)):PG X (.Name x pos) (oP g [i] (ah i)) :=
 PG.imp (fun v σ H Q ⟨F,y,ρ,S,av,σa,k,C,rv,r,h,p⟩=>p y ρ S H _ _ .refl C (dJ r rv) ⟨List.length_set ..,fun j hj=>List.getElem?_set_ne fun e=>hj (by simp [e])⟩ h) h
theorem ER {t:BG}:∀ D σ H,dh g (aZ be t) D σ H → ki (up g be) (oP g sl t) D σ H:=fun D σ H ⟨F,y,ρ,S,σa,d,C,r,h,p,_⟩ =>
 ay C r h fun y1 ρ1 S1 H1 ax x st C1 r1 rx h1=>⟨F,y1,ρ1,S1,ax,σa,d.nx,C1,rx,r1,h1,fun y2 ρ2 S2 H2 σ2 σ3 st2 C2 r2 _ h2=>p y2 ρ2 S2 H2 σ2 σ3 (st.trans st2) C2 r2 h2⟩
theorem Hn {x:Str} {p:Pos} (i:Nat) (h:PS X (.Assign [.Name x p] e pos) (ki (up g be) (ig i))):PS X (.Assign [.Name x p] e pos) (dh g (aZ be (ah i))) :=
 PS.imp (fun D σ H ⟨F,y,ρ,S,σa,d,C,r,h,p,_⟩=>ay C r h fun y1 ρ1 S1 H1 ax x st C1 r1 rx h1=>p y1 ρ1 S1 H1 _ _ st C1 (dJ r1 rx) h1) h
end
def eI:Int → Int → Bool
 | .ofNat m,.ofNat n=>Nat.ble m n
 | .negSucc m,.negSucc n=>Nat.ble n m
 | .negSucc _,.ofNat _=>true
 | .ofNat _,.negSucc _=>false
theorem bK {a b:Int}:eI a b = true ↔ a ≤ b:=by
  cases a with
  | ofNat m=>cases b with
    | ofNat n =>
      show Nat.ble m n = true ↔ (m:Int) ≤ (n:Int)
      rw [Nat.ble_eq]; omega
    | negSucc n =>
      constructor
      · intro h; cases h
      · intro h; exfalso; have:(m:Int) ≤ Int.negSucc n:=h; omega
  | negSucc m=>cases b with
    | ofNat n =>
      constructor
      · intro _; show Int.negSucc m ≤ (n:Int); omega
      · intro _; rfl
    | negSucc n =>
      show Nat.ble n m = true ↔ _
      rw [Nat.ble_eq]; omega
def Ci (a b:Int):Bool:=!eI b a
theorem tW {a b:Int}:Ci a b = true ↔ a < b:=by
 unfold Ci
 have:=bK (a:=b) (b:=a)
 cases h:eI b a
 ·rw [h] at this; simp at this ⊢; omega
 ·rw [h] at this; simp at this ⊢; omega
def F7:Bool → Int → Int → Bool → Int → Int → Option Bool
 | false,lo,hi,false,lo',hi'=>match Ci hi lo' with
  | true=>some true
  | false=>match eI hi' lo with
   | true=>some false
   | false=>none
 | true,lo,hi,true,lo',hi'=>match Ci hi lo' with
  | true=>some true
  | false=>match eI hi' lo with
   | true=>some false
   | false=>none
 | true,lo,_,false,_,hi'=>match eI hi' (lo + 1) with
  | true=>some false
  | false=>none
 | false,_,hi,true,lo',_=>match eI hi lo' with
  | true=>some true
  | false=>none
def Iv:Bool → Int → Int → Bool → Int → Int → Option Bool
 | s,lo,hi,s',lo',hi'=>match s,s' with
  | false,true=>match eI hi lo' with
   | true=>some false
   | false=>none
  | true,false=>match eI hi' lo with
   | true=>some false
   | false=>none
  | _,_=>match Ci hi lo' with
   | true=>some false
   | false=>match Ci hi' lo with
    | true=>some false
    | false=>match eI hi lo' with
     | true=>match eI hi' lo with
      | true=>match eI hi lo with
       | true=>match eI hi' lo' with
        | true=>some true
        | false=>none
       | false=>none
      | false=>none
     | false=>none
def Bd (y:Option Int) (s:Bool) (lo hi z:Int):Prop:=match s with
 | false=>lo ≤ z ∧ z ≤ hi
 | true=>∃ x,y = some x ∧ x + lo ≤ z ∧ z ≤ x + hi
theorem bF {F:Fx} {s:Bool} {lo hi:Int} {v:V}:aY F y ρ H (.int s lo hi) v ↔ ∃ z,v = .int z ∧ Bd y s lo hi z:=by
 cases s with
 | false=>exact Iff.rfl
 | true=>exact ⟨fun ⟨x,z,h1,h2,h3⟩=>⟨z,h2,x,h1,h3⟩,fun ⟨z,h2,x,h1,h3⟩=>⟨x,z,h1,h2,h3⟩⟩
theorem xq (hy:∀ x,y = some x → 1 ≤ x) {s s':Bool} {lo hi lo' hi' z z':Int} {b:Bool} (h1:Bd y s lo hi z) (h2:Bd y s' lo' hi' z') (h:F7 s lo hi s' lo' hi' = some b):decide (z < z') = b:=by
 have close:∀ {p q:Bool} {c d:Int},(Ci hi lo' = p) → (eI hi' lo = q) → c + lo ≤ z → z ≤ c + hi → c + lo' ≤ z' → z' ≤ c + hi' →
   (match p with | true=>some true | false=>match q with | true=>some false | false=>none) = some b → decide (z < z') = b:=by
  intro p q c _ hp hq a1 a2 a3 a4 e
  cases p with
  | true =>
   cases e
   rw [tW] at hp
   exact decide_eq_true (by omega)
  | false=>cases q with
   | true =>
    cases e
    rw [bK] at hq
    exact decide_eq_false (by omega)
   | false=>cases e
 cases s <;> cases s'
 ·obtain ⟨a1,a2⟩:=h1
  obtain ⟨a3,a4⟩:=h2
  exact close (c:=0) (d:=0) rfl rfl (by omega) (by omega) (by omega) (by omega) h
 ·obtain ⟨a1,a2⟩:=h1
  obtain ⟨x,e,a3,a4⟩:=h2
  have:=hy x e
  cases q:eI hi lo' with
  | false=>simp only [F7,q] at h; cases h
  | true=>simp only [F7,q] at h; cases h; rw [bK] at q; exact decide_eq_true (by omega)
 ·obtain ⟨x,e,a1,a2⟩:=h1
  obtain ⟨a3,a4⟩:=h2
  have:=hy x e
  cases q:eI hi' (lo + 1) with
  | false=>simp only [F7,q] at h; cases h
  | true=>simp only [F7,q] at h; cases h; rw [bK] at q; exact decide_eq_false (by omega)
 ·obtain ⟨x,e,a1,a2⟩:=h1
  obtain ⟨x',e',a3,a4⟩:=h2
  rw [e] at e'; cases e'
  exact close (c:=x) (d:=0) rfl rfl a1 a2 a3 a4 h
theorem Cj (hy:∀ x,y = some x → 1 ≤ x) {s s':Bool} {lo hi lo' hi' z z':Int} {b:Bool} (h1:Bd y s lo hi z) (h2:Bd y s' lo' hi' z') (h:Iv s lo hi s' lo' hi' = some b):decide (z = z') = b:=by
 have close:∀ {c:Int},c + lo ≤ z → z ≤ c + hi → c + lo' ≤ z' → z' ≤ c + hi' →
   (match Ci hi lo' with
   | true=>some false
   | false=>match Ci hi' lo with
    | true=>some false
    | false=>match eI hi lo' with
     | true=>match eI hi' lo with
      | true=>match eI hi lo with
       | true=>match eI hi' lo' with
        | true=>some true
        | false=>none
       | false=>none
      | false=>none
     | false=>none) = some b → decide (z = z') = b:=by
  intro c a1 a2 a3 a4 e
  cases p1:Ci hi lo' with
  | true=>simp only [p1] at e; cases e; rw [tW] at p1; exact decide_eq_false (by omega)
  | false =>
   simp only [p1] at e
   cases p2:Ci hi' lo with
   | true=>simp only [p2] at e; cases e; rw [tW] at p2; exact decide_eq_false (by omega)
   | false =>
    simp only [p2] at e
    cases p3:eI hi lo' with
    | false=>simp only [p3] at e; cases e
    | true =>
     simp only [p3] at e
     cases p4:eI hi' lo with
     | false=>simp only [p4] at e; cases e
     | true =>
      simp only [p4] at e
      cases p5:eI hi lo with
      | false=>simp only [p5] at e; cases e
      | true =>
       simp only [p5] at e
       cases p6:eI hi' lo' with
       | false=>simp only [p6] at e; cases e
       | true =>
        simp only [p6] at e
        cases e
        rw [bK] at p3 p4 p5 p6
        exact decide_eq_true (by omega)
 cases s <;> cases s'
 ·obtain ⟨a1,a2⟩:=h1
  obtain ⟨a3,a4⟩:=h2
  exact close (c:=0) (by omega) (by omega) (by omega) (by omega) h
 ·obtain ⟨a1,a2⟩:=h1
  obtain ⟨x,e,a3,a4⟩:=h2
  have:=hy x e
  cases q:eI hi lo' with
  | false=>simp only [Iv,q] at h; cases h
  | true=>simp only [Iv,q] at h; cases h; rw [bK] at q; exact decide_eq_false (by omega)
 ·obtain ⟨x,e,a1,a2⟩:=h1
  obtain ⟨a3,a4⟩:=h2
  have:=hy x e
  cases q:eI hi' lo with
  | false=>simp only [Iv,q] at h; cases h
  | true=>simp only [Iv,q] at h; cases h; rw [bK] at q; exact decide_eq_false (by omega)
 ·obtain ⟨x,e,a1,a2⟩:=h1
  obtain ⟨x',e',a3,a4⟩:=h2
  rw [e] at e'; cases e'
  exact close (c:=x) a1 a2 a3 a4 h
def kb (o:Option Bool) (S:aT) (k:AV → aT → Bool):Bool:=match o with
 | some b=>k (.bl b) S
 | none=>false
def fk:AV → AV → aT → (AV → aT → Bool) → Bool:=fun a b S k=>match a,b with
 | .int false lo hi,.int s lo' hi'=>k (.int s (lo + lo') (hi + hi')) S
 | .int true lo hi,.int false lo' hi'=>k (.int true (lo + lo') (hi + hi')) S
 | _,_=>false
def F8:AV → AV → aT → (AV → aT → Bool) → Bool:=fun a b S k=>match a,b with
 | .int s lo hi,.int s' lo' hi'=>kb (F7 s lo hi s' lo' hi') S k
 | _,_=>false
def ES:Option Bool → Option Bool
 | some b=>some (!b)
 | none=>none
def K2:AV → AV → aT → (AV → aT → Bool) → Bool:=fun a b S k=>match a,b with
 | .int s lo hi,.int s' lo' hi'=>kb (ES (F7 s lo hi s' lo' hi')) S k
 | _,_=>false
def F9:AV → AV → Option Bool
 | .non,.non=>some true
 | .non,.int _ _ _=>some false
 | .int _ _ _,.non=>some false
 | .non,.bl _=>some false
 | .bl _,.non=>some false
 | .non,.str _=>some false
 | .str _,.non=>some false
 | .int s lo hi,.int s' lo' hi'=>Iv s lo hi s' lo' hi'
 | .bl a,.bl b=>some (a == b)
 | .str i,.str j=>some (Nat.beq i j)
 | .int _ _ _,.str _=>some false
 | .str _,.int _ _ _=>some false
 | .bl _,.str _=>some false
 | .str _,.bl _=>some false
 | _,_=>none
def r9:AV → AV → aT → (AV → aT → Bool) → Bool:=fun a b S k=>kb (F9 a b) S k
def Ga:AV → AV → aT → (AV → aT → Bool) → Bool:=fun a b S k=>kb (ES (F9 a b)) S k
section
variable {g:Gx} {F:Fx} {S:aT}
theorem g7 {o:Option Bool} {k:AV → aT → Bool} (h:kb o S k = true):∃ b,o = some b ∧ k (.bl b) S = true:=by
 cases o with
 | none=>cases h
 | some b=>exact ⟨b,rfl,h⟩
theorem lT {o:Option Bool} {b:Bool} (h:ES o = some b):o = some (!b):=by
 cases o with
 | none=>cases h
 | some c=>cases h; simp
theorem bX:iN g (D6 fun i j=>.int (i + j)) fk:=by
 intro F y ρ S H x z ax az k Q C rx rz h p
 cases ax with
 | int s lo hi=>cases az with
  | int s' lo' hi' =>
   obtain ⟨i,rfl,b1⟩:=bF.mp rx
   obtain ⟨j,rfl,b2⟩:=bF.mp rz
   refine ⟨i,j,rfl,rfl,?_⟩
   cases s with
   | false=>cases s' with
    | false=>exact p.here C (bF.mpr ⟨_,rfl,by obtain ⟨a1,a2⟩:=b1; obtain ⟨a3,a4⟩:=b2; exact ⟨by omega,by omega⟩⟩) h
    | true=>exact p.here C (bF.mpr ⟨_,rfl,by obtain ⟨a1,a2⟩:=b1; obtain ⟨x,e,a3,a4⟩:=b2; exact ⟨x,e,by omega,by omega⟩⟩) h
   | true=>cases s' with
    | false=>exact p.here C (bF.mpr ⟨_,rfl,by obtain ⟨x,e,a1,a2⟩:=b1; obtain ⟨a3,a4⟩:=b2; exact ⟨x,e,by omega,by omega⟩⟩) h
    | true=>cases h
  | _=>cases s <;> cases h
 | _=>cases h
theorem jO:iN g (D6 fun i j=>.bl (decide (i < j))) F8:=by
 intro F y ρ S H x z ax az k Q C rx rz h p
 cases ax with
 | int s lo hi=>cases az with
  | int s' lo' hi' =>
   obtain ⟨i,rfl,b1⟩:=bF.mp rx
   obtain ⟨j,rfl,b2⟩:=bF.mp rz
   obtain ⟨b,e,hk⟩:=g7 h
   refine ⟨i,j,rfl,rfl,?_⟩
   dsimp only
   rw [xq C.pos b1 b2 e]
   exact p.here C (av:=.bl b) rfl hk
  | _=>cases h
 | _=>cases h
theorem Ho {i j:Int}:decide (i ≤ j) = !decide (j < i):=by
 by_cases h:i ≤ j
 ·have:¬ j < i:=by omega
  simp [h,this]
 ·have:j < i:=by omega
  simp [h,this]
theorem Hq:iN g (D6 fun i j=>.bl (decide (j ≤ i))) K2:=by
 intro F y ρ S H x z ax az k Q C rx rz h p
 cases ax with
 | int s lo hi=>cases az with
  | int s' lo' hi' =>
   obtain ⟨i,rfl,b1⟩:=bF.mp rx
   obtain ⟨j,rfl,b2⟩:=bF.mp rz
   obtain ⟨b,e,hk⟩:=g7 h
   have e:=lT e
   refine ⟨i,j,rfl,rfl,?_⟩
   dsimp only
   rw [Ho,xq C.pos b1 b2 e,Bool.not_not]
   exact p.here C (av:=.bl b) rfl hk
  | _=>cases h
 | _=>cases h
theorem xr (hy:∀ x,y = some x → 1 ≤ x) {ax az:AV} {x z:V} {b:Bool} (rx:aY F y ρ H ax x) (rz:aY F y ρ H az z) (h:F9 ax az = some b):Bn x z = true ∧ decide (x = z) = b:=by
 cases ax with
 | non =>
  cases (show x = .non from rx)
  cases az with
  | non=>cases (show z = .non from rz); cases h; exact ⟨rfl,rfl⟩
  | int s lo hi=>obtain ⟨j,rfl,_⟩:=bF.mp rz; cases h; exact ⟨rfl,rfl⟩
  | bl d=>cases (show z = .bl d from rz); cases h; exact ⟨rfl,rfl⟩
  | str i=>obtain ⟨w,_,rfl⟩:=rz; cases h; exact ⟨rfl,rfl⟩
  | _=>cases h
 | int s lo hi =>
  obtain ⟨i,rfl,b1⟩:=bF.mp rx
  cases az with
  | non=>cases (show z = .non from rz); cases h; exact ⟨rfl,rfl⟩
  | int s' lo' hi' =>
   obtain ⟨j,rfl,b2⟩:=bF.mp rz
   have:=Cj hy b1 b2 h
   refine ⟨rfl,?_⟩
   rw [← this]
   by_cases q:i = j
   ·subst q; simp
   ·have:¬ (V.int i = V.int j):=fun e=>q (by injection e)
    simp [q]
  | str i=>obtain ⟨w,_,rfl⟩:=rz; cases h; exact ⟨rfl,rfl⟩
  | _=>cases h
 | bl c =>
  cases (show x = .bl c from rx)
  cases az with
  | non=>cases (show z = .non from rz); cases h; exact ⟨rfl,rfl⟩
  | bl d =>
   cases (show z = .bl d from rz); cases h
   refine ⟨rfl,?_⟩
   cases c <;> cases d <;> rfl
  | str i=>obtain ⟨w,_,rfl⟩:=rz; cases h; exact ⟨rfl,rfl⟩
  | _=>cases h
 | str i =>
  obtain ⟨w,e1,rfl⟩:=rx
  cases az with
  | non=>cases (show z = .non from rz); cases h; exact ⟨rfl,rfl⟩
  | int s lo hi=>obtain ⟨j,rfl,_⟩:=bF.mp rz; cases h; exact ⟨rfl,rfl⟩
  | bl d=>cases (show z = .bl d from rz); cases h; exact ⟨rfl,rfl⟩
  | str j =>
   obtain ⟨w',e2,rfl⟩:=rz
   cases h
   refine ⟨rfl,?_⟩
   rw [fU]
   by_cases q:i = j
   ·subst q
    rw [e1] at e2; cases e2
    simp
   ·have:¬ (V.str w = V.str w'):=fun e=>q (by injection e with e; subst e; exact d9 e1 e2)
    simp [q,this]
  | _=>cases h
 | _=>cases az <;> cases h
theorem cG:iN g KY r9:=by
 intro F y ρ S H x z ax az k Q C rx rz h p
 obtain ⟨b,e,hk⟩:=g7 h
 obtain ⟨h1,h2⟩:=xr C.pos rx rz e
 refine ⟨h1,?_⟩
 rw [h2]
 exact p.here C (av:=.bl b) rfl hk
theorem jP:iN g KZ Ga:=by
 intro F y ρ S H x z ax az k Q C rx rz h p
 obtain ⟨b,e,hk⟩:=g7 h
 obtain ⟨h1,h2⟩:=xr C.pos rx rz (lT e)
 refine ⟨h1,?_⟩
 rw [h2,Bool.not_not]
 exact p.here C (av:=.bl b) rfl hk
end
section
variable {g:Gx} {F:Fx} {S:aT} {n:Nat} {v:V}
theorem aM.obj (C:aM g F y ρ S H) (r:aY F y ρ H (.ref n) v) {o:AO} (e:S.t.get n = some o):∃ a ho,v = .ref a ∧ ρ[n]? = some a ∧ H a = some ho ∧ fV F y ρ H g o ho:=by
 obtain ⟨a,ha,rfl⟩:=r
 obtain ⟨o',ho,h1,h2,h3⟩:=C.at_ n a ha
 rw [e] at h1; cases h1
 exact ⟨a,ho,rfl,ha,h2,h3⟩
theorem aM.lst (C:aM g F y ρ S H) (r:aY F y ρ H (.ref n) v) {xs:List AV} (e:S.t.get n = some (.lst xs)):∃ a vs,v = .ref a ∧ ρ[n]? = some a ∧ H a = some (.lst vs) ∧ aX F y ρ H xs vs:=by
 obtain ⟨a,ho,h1,h2,h3,vs,rfl,h4⟩:=C.obj r e
 exact ⟨a,vs,h1,h2,h3,h4⟩
theorem aM.dk (C:aM g F y ρ S H) (r:aY F y ρ H (.ref n) v) {xs:List (AV × AV)} (e:S.t.get n = some (.dk xs)):∃ a ks,v = .ref a ∧ ρ[n]? = some a ∧ H a = some (.dK ks) ∧ Paired (fun p q=>gG p.1 q.1 ∧ aY F y ρ H p.2 q.2) xs ks:=by
 obtain ⟨a,ho,h1,h2,h3,vs,rfl,h4⟩:=C.obj r e
 exact ⟨a,vs,h1,h2,h3,h4⟩
theorem aM.dt (C:aM g F y ρ S H) (r:aY F y ρ H (.ref n) v) {xs:List (AV × AV)} (e:S.t.get n = some (.dt xs)):∃ a ks,v = .ref a ∧ ρ[n]? = some a ∧ H a = some (.dT ks) ∧ Paired (fun p q=>fY p.1 q.1 ∧ aY F y ρ H p.2 q.2) xs ks:=by
 obtain ⟨a,ho,h1,h2,h3,vs,rfl,h4⟩:=C.obj r e
 exact ⟨a,vs,h1,h2,h3,h4⟩
theorem aM.ins (C:aM g F y ρ S H) (r:aY F y ρ H (.ref n) v) {c:Nat} {fs:List (Nat × AV)} (e:S.t.get n = some (.ins c fs)):∃ a dx gs,v = .ref a ∧ ρ[n]? = some a ∧ c < 2 ∧ H a = some (.ins (g.cl c) dx gs) ∧ Paired (fun p q=>bf[p.1]? = some q.1 ∧ aY F y ρ H p.2 q.2) fs gs ∧ ∀ p ∈ fs,p.1 ∈ lR:=by
 obtain ⟨a,ho,h1,h2,h3,dx,gs,⟨h5,rfl,h6⟩,h4⟩:=C.obj r e
 exact ⟨a,dx,gs,h1,h2,h5,h3,h4,h6⟩
end
def Ky:AV → Option Bool
 | .non=>some true
 | .ext _=>none
 | _=>some false
def gH (a:BE):BE:=fun σ S k=>a σ S fun x S1=>kb (Ky x) S1 k
def yR (a:BE):BE:=fun σ S k=>a σ S fun x S1=>kb (ES (Ky x)) S1 k
theorem Ck {F:Fx} {ax:AV} {x:V} {b:Bool} (r:aY F y ρ H ax x) (h:Ky ax = some b):decide (x = .non) = b:=by
 cases ax with
 | non=>cases h; cases (show x = .non from r); rfl
 | bl c=>cases h; cases (show x = .bl c from r); rfl
 | int s lo hi=>cases h; obtain ⟨z,rfl,_⟩:=bF.mp r; rfl
 | str i=>cases h; obtain ⟨w,_,rfl⟩:=r; rfl
 | ref n=>cases h; obtain ⟨a,_,rfl⟩:=r; rfl
 | ext i=>cases h
 | tn=>cases h; obtain ⟨a,rfl,_⟩:=r; rfl
 | tc p q=>cases h; obtain ⟨a,_,_,rfl,_⟩:=r; rfl
section
variable {g:Gx} {a b e o:Expr} {ba bb bc:BE} {br:BA}
theorem yS:∀ σ H Q,up g (gH ba) σ H Q → Ed (up g ba) σ H Q:=fun σ H Q ⟨F,y,ρ,S,σa,k,C,r,h,p⟩ =>
 ay C r h fun y1 ρ1 S1 H1 ax x st C1 r1 rx h1=>by
  obtain ⟨b,e,hk⟩:=g7 h1
  rw [Ck rx e]
  exact p y1 ρ1 S1 H1 (.bl b) _ st C1 rfl hk
theorem Cl:∀ σ H Q,up g (yR ba) σ H Q → Bc (up g ba) σ H Q:=fun σ H Q ⟨F,y,ρ,S,σa,k,C,r,h,p⟩ =>
 ay C r h fun y1 ρ1 S1 H1 ax x st C1 r1 rx h1=>by
  obtain ⟨b,e,hk⟩:=g7 h1
  rw [Ck rx (lT e),Bool.not_not]
  exact p y1 ρ1 S1 H1 (.bl b) _ st C1 rfl hk
theorem tX {n:Expr} (h:PE X (.Compare a [.Is] [n] pos) (Ed (up g ba))):PE X (.Compare a [.Is] [n] pos) (up g (gH ba)):=PE.imp yS h
theorem ee {n:Expr} (h:PT X (.Compare a [.Is] [n] pos) (tB (Ed (up g ba)))):PT X (.Compare a [.Is] [n] pos) (fw g (bB (gH ba))):=PT.imp (fH yS) h
theorem yT {n:Expr} (h:PT X (.Compare a [.IsNot] [n] pos) (tB (Bc (up g ba)))):PT X (.Compare a [.IsNot] [n] pos) (fw g (bB (yR ba))):=PT.imp (fH Cl) h
def vL (f:Nat):List (Nat × AV) → Option AV
 | []=>none
 | (i,v) :: r=>match Nat.beq i f with
  | true=>some v
  | false=>vL f r
def aS (f:Nat) (a:BE):BE:=fun σ S k=>a σ S fun x S1=>match x with
 | .ref n=>match S1.t.get n with
  | some (.ins c fs)=>match vL f fs with
   | some v=>k v S1
   | none=>false
  | _=>false
 | _=>false
theorem vM {F:Fx} {y:Option Int} {ρ:List Addr} {H:Hp} {f:Nat} {x:Str} (hf:bf[f]? = some x):∀ {fs:List (Nat × AV)} {gs:List (Str × V)} {av:AV},Paired (fun p q=>bf[p.1]? = some q.1 ∧ aY F y ρ H p.2 q.2) fs gs → vL f fs = some av → ∃ v,gs.lookup x = some v ∧ aY F y ρ H av v
 | _,_,_,.nil,h=>by cases h
 | _,_,av,.cons (a:=(i,w)) (b:=(z,v)) hd tl,h=>by
  unfold vL at h
  obtain ⟨h1,h2⟩:=hd
  dsimp only at h1 h2 h
  rw [fU] at h
  by_cases q:i = f
  ·subst q
   simp at h
   subst h
   rw [hf] at h1; cases h1
   exact ⟨v,by simp [List.lookup],h2⟩
  ·simp [q] at h
   obtain ⟨v',e1,e2⟩:=vM hf tl h
   have:(x == z) = false:=by
    rw [beq_eq_false_iff_ne]
    intro e; subst e
    exact q (d9 h1 hf)
   exact ⟨v',by rw [List.lookup,this]; exact e1,e2⟩
theorem ef {f:Str} (i:Nat) (hi:bf[i]? = some f) (hc:∀ c,c < 2 → qq X.K (g.cl c)) (hn:∀ c,c < 2 → ci X.K (g.cl c) f) (he:PE X e (up g ba)) (hb:attributeBase e f X.env (eval e X.env) = eval e X.env):PE X (.Attribute e f pos) (up g (aS i ba)):=by
 refine PE.imp (fun σ H Q ⟨F,y,ρ,S,σa,k,C,r,h,p⟩=>?_) (GN he hb)
 refine ay C r h fun y1 ρ1 S1 H1 ax x st C1 r1 rx h1=>?_
 cases ax with
 | ref n =>
  dsimp only at h1
  cases q:S1.t.get n with
  | none=>rw [q] at h1; cases h1
  | some ob =>
   rw [q] at h1
   cases ob with
   | ins c fs =>
    dsimp only at h1
    cases q2:vL i fs with
    | none=>rw [q2] at h1; cases h1
    | some av =>
     rw [q2] at h1
     obtain ⟨a,dx,gs,rfl,_,hc2,ha,pr,_⟩:=C1.ins rx q
     obtain ⟨v,e1,e2⟩:=vM hi pr q2
     exact ⟨a,_,dx,gs,v,rfl,ha,hc c hc2,hn c hc2,e1,p y1 ρ1 S1 H1 av v st C1 e2 h1⟩
   | _=>cases h1
 | _=>cases h1
def mH (f:Nat) (v:AV):List (Nat × AV) → List (Nat × AV)
 | []=>[(f,v)]
 | (i,x) :: r=>match Nat.beq i f with
  | true=>(i,v) :: r
  | false=>(i,x) :: mH f v r
theorem vN {F:Fx} {y:Option Int} {ρ:List Addr} {H:Hp} {f:Nat} {x:Str} {av:AV} {v:V} (hf:bf[f]? = some x) (rv:aY F y ρ H av v):∀ {fs:List (Nat × AV)} {gs:List (Str × V)},Paired (fun p q=>bf[p.1]? = some q.1 ∧ aY F y ρ H p.2 q.2) fs gs → Paired (fun p q=>bf[p.1]? = some q.1 ∧ aY F y ρ H p.2 q.2) (mH f av fs) (gW x v gs)
 | _,_,.nil=>.cons ⟨hf,rv⟩ .nil
 | _,_,.cons (a:=(i,w)) (b:=(z,u)) hd tl=>by
  unfold mH gW
  obtain ⟨h1,h2⟩:=hd
  dsimp only at h1 h2 ⊢
  rw [fU]
  by_cases q:i = f
  ·subst q
   rw [hf] at h1; cases h1
   simp
   exact .cons ⟨hf,rv⟩ tl
  ·have:¬ z = x:=fun e=>by subst e; exact q (d9 h1 hf)
   simp [q,this]
   exact .cons ⟨h1,h2⟩ (vN hf rv tl)
def d5 (f:Nat) (a v:BE):BS:=fun d σ S=>v σ S fun w S1=>a σ S1 fun x S2=>match x with
 | .ref n=>match S2.t.get n with
  | some (.ins c fs)=>match Nat.ble fs.length 100 with
   | true=>d.nx σ (S2.set n (.ins c (mH f w fs)))
   | false=>false
  | _=>false
 | _=>false
theorem sd {f:Nat} {v:AV} (hf:f ∈ lR):∀ {fs:List (Nat × AV)},(∀ p ∈ fs,p.1 ∈ lR) → ∀ p ∈ mH f v fs,p.1 ∈ lR
 | [],_,p,hp=>by
  simp [mH] at hp
  subst hp; exact hf
 | (i,x) :: r,h,p,hp=>by
  unfold mH at hp
  split at hp
  ·rcases List.mem_cons.mp hp with e | e
   ·subst e; exact h (i,x) List.mem_cons_self
   ·exact h p (List.mem_cons_of_mem _ e)
  ·rcases List.mem_cons.mp hp with e | e
   ·subst e; exact h (i,x) List.mem_cons_self
   ·exact sd hf (fun q hq=>h q (List.mem_cons_of_mem _ hq)) p e
theorem cZ {f:Str} {pos':Pos} (i:Nat) (hi:bf[i]? = some f) (hif:i ∈ lR) (hc:∀ c,c < 2 → qq X.K (g.cl c)) (hn:∀ c,c < 2 → ci X.K (g.cl c) f) (ha:PE X o (up g ba)) (hv:PE X e (up g bb)) (hs:swapsWith e (some (.Attribute o f pos')) pos.line X.env = pure false) :
  PS X (.Assign [.Attribute o f pos'] e pos) (dh g (d5 i ba bb)):=by
 refine PS.imp (fun D σ H ⟨F,y,ρ,S,σa,d,C,r,h,p,_⟩=>?_) (GO ha hv hs)
 refine ay C r h fun y1 ρ1 S1 H1 aw w st C1 r1 rw' h1=>ay C1 r1 h1 fun y2 ρ2 S2 H2 ax x st2 C2 r2 rx h2=>?_
 cases ax with
 | ref n =>
  dsimp only at h2
  cases q:S2.t.get n with
  | none=>rw [q] at h2; cases h2
  | some ob =>
   rw [q] at h2
   cases ob with
   | ins c fs =>
    dsimp only at h2
    cases q2:Nat.ble fs.length 100 with
    | false=>rw [q2] at h2; cases h2
    | true =>
     rw [q2] at h2
     obtain ⟨a,dx,gs,rfl,hρ,hc2,ha,pr,hfl⟩:=C2.ins rx q
     have hl:=Paired.length pr
     have hl2:=bO q2
     have st3:aD F y2 ρ2 H2 y2 ρ2 (upd H2 a (.ins (g.cl c) dx (gW f w gs))):=aD.set C2 hρ ha
     refine ⟨a,_,dx,gs,rfl,ha,hc c hc2,hn c hc2,by omega,?_⟩
     refine p y2 ρ2 _ _ σa σ ((st.trans st2).trans st3) (C2.set hρ ha (o:=.ins c (mH i aw fs)) (ob:=⟨dx,_,⟨hc2,rfl,sd hif hfl⟩,vN hi (aY.mono (st2.trans st3) rw') (a0 (fun _ _ z=>⟨z.1,aY.mono st3 z.2⟩) pr)⟩)) (bE.mono st3 r2) h2
   | _=>cases h2
 | _=>cases h2
end
def fg:AV → Bool
 | .int false lo hi=>eI lo hi && eI hi lo
 | .str _=>true
 | _=>false
def eZ:AV → Bool
 | .tn=>true
 | .tc h t=>fg h && eZ t
 | _=>false
def wP:AV → AV → Bool
 | .int _ lo _,.int _ lo' _=>eI lo lo' && eI lo' lo
 | .str i,.str j=>Nat.beq i j
 | .tn,.tn=>true
 | .tc a b,.tc c d=>wP a c && wP b d
 | _,_=>false
section
variable {F:Fx}
theorem dc {ax:AV} {x:V} (h:fg ax = true) (r:aY F y ρ H ax x):∃ k,gG ax k ∧ x = kV k:=by
 cases ax with
 | int s lo hi=>cases s with
  | true=>cases h
  | false =>
   simp only [fg,Bool.and_eq_true,bK] at h
   obtain ⟨z,rfl,h1,h2⟩:=r
   have e:z = lo:=by omega
   subst e
   exact ⟨.inl z,⟨by omega,rfl⟩,rfl⟩
 | str i=>obtain ⟨w,e,rfl⟩:=r; exact ⟨.inr w,⟨w,e,rfl⟩,rfl⟩
 | _=>cases h
theorem vO:∀ {ax:AV} {xs:List V},eZ ax = true → z9 F y ρ H ax xs → ∃ ks:List bj,fY ax ks ∧ xs = ks.map kV
 | .tn,_,_,r=>⟨[],rfl,r⟩
 | .tc a b,_,h,⟨w,ws,e,h1,h2⟩=>by
  simp only [eZ,Bool.and_eq_true] at h
  obtain ⟨k,hk,rfl⟩:=dc h.1 h1
  obtain ⟨ks,hks,rfl⟩:=vO h.2 h2
  exact ⟨k :: ks,⟨k,ks,rfl,hk,hks⟩,e⟩
 | .non,_,h,_=>by cases h
 | .bl _,_,h,_=>by cases h
 | .int _ _ _,_,h,_=>by cases h
 | .str _,_,h,_=>by cases h
 | .ref _,_,h,_=>by cases h
 | .ext _,_,h,_=>by cases h
theorem tY {ax:AV} {x:V} (h:eZ ax = true) (r:aY F y ρ H ax x):∃ (ks:List bj) (b:Addr),fY ax ks ∧ x = .ref b ∧ H b = some (.tup (ks.map kV)):=by
 cases ax with
 | tn=>obtain ⟨a,rfl,ha⟩:=r; exact ⟨[],a,rfl,rfl,ha⟩
 | tc p q =>
  obtain ⟨a,w,ws,rfl,ha,h1,h2⟩:=r
  obtain ⟨ks,hks,e⟩:=vO (ax:=.tc p q) (xs:=w :: ws) h ⟨w,ws,rfl,h1,h2⟩
  exact ⟨ks,a,hks,rfl,by rw [ha,e]⟩
 | _=>cases h
theorem fZ {a b:AV} {k l:bj} (h1:gG a k) (h2:gG b l):wP a b = decide (k = l):=by
 cases a with
 | int s lo hi=>cases s with
  | true=>exact h1.elim
  | false =>
   obtain ⟨_,rfl⟩:=h1
   cases b with
   | int s' lo' hi'=>cases s' with
    | true=>exact h2.elim
    | false =>
     obtain ⟨_,rfl⟩:=h2
     unfold wP
     by_cases q:lo = lo'
     ·subst q; simp [bK]
     ·have:¬ (Sum.inl lo:bj) = Sum.inl lo':=fun e=>q (by injection e)
      rw [decide_eq_false this]
      cases e:(eI lo lo' && eI lo' lo) with
      | false=>rfl
      | true=>simp only [Bool.and_eq_true,bK] at e; exact absurd (by omega) q
   | str j =>
    obtain ⟨x,_,rfl⟩:=h2
    simp [wP]
   | _=>exact h2.elim
 | str i =>
  obtain ⟨x,e1,rfl⟩:=h1
  cases b with
  | int s' lo' hi'=>cases s' with
   | true=>exact h2.elim
   | false =>
    obtain ⟨_,rfl⟩:=h2
    simp [wP]
  | str j =>
   obtain ⟨x',e2,rfl⟩:=h2
   unfold wP
   rw [fU]
   by_cases q:i = j
   ·subst q
    rw [e1] at e2; cases e2
    simp
   ·have:¬ (Sum.inr x:bj) = Sum.inr x':=fun e=>q (by injection e with e; subst e; exact d9 e1 e2)
    simp [q,this]
  | _=>exact h2.elim
 | _=>exact h1.elim
theorem iP:∀ {a b:AV} {k l:List bj},fY a k → fY b l → wP a b = decide (k = l)
 | .tn,.tn,_,_,h1,h2=>by cases h1; cases h2; simp [wP]
 | .tn,.tc c d,_,_,h1,⟨k,r,e,_⟩=>by cases h1; subst e; simp [wP]
 | .tc a b,.tn,_,_,⟨k,r,e,_⟩,h2=>by cases h2; subst e; simp [wP]
 | .tc a b,.tc c d,_,_,⟨k,r,e,h1,h2⟩,⟨k',r',e',h3,h4⟩=>by
  subst e e'
  unfold wP
  rw [fZ h1 h3,iP h2 h4]
  by_cases q:k = k' <;> by_cases q2:r = r' <;> simp [q,q2]
 | .non,_,_,_,h,_=>h.elim
 | .bl _,_,_,_,h,_=>h.elim
 | .int _ _ _,_,_,_,h,_=>h.elim
 | .str _,_,_,_,h,_=>h.elim
 | .ref _,_,_,_,h,_=>h.elim
 | .ext _,_,_,_,h,_=>h.elim
 | .tn,.non,_,_,_,h=>h.elim
 | .tn,.bl _,_,_,_,h=>h.elim
 | .tn,.int _ _ _,_,_,_,h=>h.elim
 | .tn,.str _,_,_,_,h=>h.elim
 | .tn,.ref _,_,_,_,h=>h.elim
 | .tn,.ext _,_,_,_,h=>h.elim
 | .tc _ _,.non,_,_,_,h=>h.elim
 | .tc _ _,.bl _,_,_,_,h=>h.elim
 | .tc _ _,.int _ _ _,_,_,_,h=>h.elim
 | .tc _ _,.str _,_,_,_,h=>h.elim
 | .tc _ _,.ref _,_,_,_,h=>h.elim
 | .tc _ _,.ext _,_,_,_,h=>h.elim
end
def dN:List (AV × AV) → AV → Option AV
 | [],_=>none
 | (k,v) :: r,x=>match wP k x with
  | true=>some v
  | false=>dN r x
def vP:List (AV × AV) → AV → AV → List (AV × AV)
 | [],_,_=>[]
 | (k,v) :: r,x,w=>match wP k x with
  | true=>(k,w) :: vP r x w
  | false=>(k,v) :: vP r x w
def mI:List (AV × AV) → AV → List (AV × AV)
 | [],_=>[]
 | (k,v) :: r,x=>match wP k x with
  | true=>mI r x
  | false=>(k,v) :: mI r x
def qC (kvs:List (AV × AV)) (x w:AV):List (AV × AV):=match dN kvs x with
 | some _=>vP kvs x w
 | none=>kvs ++ [(x,w)]
section
variable {κ:Type} [DecidableEq κ] {KR:AV → κ → Prop} {R:AV → V → Prop} (hK:∀ a b k l,KR a k → KR b l → wP a b = decide (k = l)) {ax:AV} {k:κ} (hx:KR ax k)
include hK hx
theorem gI:∀ {kvs:List (AV × AV)} {ks:List (κ × V)},Paired (fun p q=>KR p.1 q.1 ∧ R p.2 q.2) kvs ks → (∀ av,dN kvs ax = some av → ∃ v,cX ks k = some v ∧ R av v) ∧ (dN kvs ax = none → cX ks k = none)
 | _,_,.nil=>⟨fun _ h=>by (cases h),fun _=>rfl⟩
 | _,_,.cons (a:=(l,w)) (b:=(l',v)) hd tl=>by
  obtain ⟨h1,h2⟩:=hd
  dsimp only at h1 h2
  unfold dN
  rw [hK l ax l' k h1 hx]
  by_cases q:l' = k
  ·subst q
   simp [cX,List.find?_cons]
   exact h2
  ·have ih:=gI tl
   have e:∀ r:List (κ × V),cX ((l',v) :: r) k = cX r k:=fun r=>kq q
   simp only [q,decide_false]
   rw [e]
   exact ih
theorem oR {w:AV} {v:V} (rw':R w v):∀ {kvs:List (AV × AV)} {ks:List (κ × V)},Paired (fun p q=>KR p.1 q.1 ∧ R p.2 q.2) kvs ks → Paired (fun p q=>KR p.1 q.1 ∧ R p.2 q.2) (vP kvs ax w) (ks.map fun kv=>if kv.1 = k then (kv.1,v) else kv)
 | _,_,.nil=>.nil
 | _,_,.cons (a:=(l,u)) (b:=(l',u')) hd tl=>by
  obtain ⟨h1,h2⟩:=hd
  dsimp only at h1 h2
  unfold vP
  rw [hK l ax l' k h1 hx,List.map_cons]
  by_cases q:l' = k
  ·simp only [q,decide_true,if_true]
   exact .cons ⟨by rw [← q]; exact h1,rw'⟩ (oR rw' tl)
  ·simp only [q,decide_false,if_false]
   exact .cons ⟨h1,h2⟩ (oR rw' tl)
theorem kT:∀ {kvs:List (AV × AV)} {ks:List (κ × V)},Paired (fun p q=>KR p.1 q.1 ∧ R p.2 q.2) kvs ks → Paired (fun p q=>KR p.1 q.1 ∧ R p.2 q.2) (mI kvs ax) (gw ks k)
 | _,_,.nil=>.nil
 | _,_,.cons (a:=(l,u)) (b:=(l',u')) hd tl=>by
  obtain ⟨h1,h2⟩:=hd
  dsimp only at h1 h2
  unfold mI gw
  rw [hK l ax l' k h1 hx,List.filter_cons]
  by_cases q:l' = k
  ·simp only [q,decide_true,ne_eq,not_true,decide_false]
   exact kT tl
  ·simp only [q,decide_false,ne_eq,not_false_eq_true,decide_true,if_true]
   exact .cons ⟨h1,h2⟩ (kT tl)
theorem nS {w:AV} {v:V} (rw':R w v) {kvs:List (AV × AV)} {ks:List (κ × V)} (h:Paired (fun p q=>KR p.1 q.1 ∧ R p.2 q.2) kvs ks):Paired (fun p q=>KR p.1 q.1 ∧ R p.2 q.2) (qC kvs ax w) (cR ks k v):=by
 have q:=gI hK hx h
 have e:(ks.any fun kv=>decide (kv.1 = k)) = (cX ks k).isSome:=oz ..
 unfold qC cR
 rw [e]
 cases z:dN kvs ax with
 | none =>
  rw [q.2 z]
  simp only [Option.isSome_none,Bool.false_eq_true,if_false]
  exact Paired.snoc h ⟨hx,rw'⟩
 | some av =>
  obtain ⟨v',hv,_⟩:=q.1 av z
  rw [hv]
  simp only [Option.isSome_some,if_true]
  exact oR hK hx rw' h
end
def ik (S:aT) (x y:AV):Option (Option AV):=match x with
 | .ref n=>match S.t.get n with
  | some (.dk kvs)=>match fg y with
   | true=>some (dN kvs y)
   | false=>none
  | some (.dt kvs)=>match eZ y with
   | true=>some (dN kvs y)
   | false=>none
  | some (.fz (.dk kvs))=>match fg y with
   | true=>some (dN kvs y)
   | false=>none
  | some (.fz (.dt kvs))=>match eZ y with
   | true=>some (dN kvs y)
   | false=>none
  | _=>none
 | _=>none
def yU (S:aT) (x y v:AV):Option aT:=match x with
 | .ref n=>match S.t.get n with
  | some (.dk kvs)=>match fg y && Nat.ble kvs.length 1000 with
   | true=>some (S.set n (.dk (qC kvs y v)))
   | false=>none
  | some (.dt kvs)=>match eZ y && Nat.ble kvs.length 1000 with
   | true=>some (S.set n (.dt (qC kvs y v)))
   | false=>none
  | _=>none
 | _=>none
section
variable {g:Gx} {F:Fx} {S:aT}
def Kz (F:Fx) (y:Option Int) (ρ:List Addr) (H:Hp):Option AV → Option V → Prop
 | some a,o=>∃ v,o = some v ∧ aY F y ρ H a v
 | none,o=>o = none
theorem yV {kvs:List (AV × AV)} {ks:List (bj × V)} {a:Addr} (hr:Rd H a (.dK ks)) (pr:Paired (fun p q=>gG p.1 q.1 ∧ aY F y ρ H p.2 q.2) kvs ks) {ak:AV} {k:V} (q2:fg ak = true) (rk:aY F y ρ H ak k):∃ o,gY H a k o ∧ Kz F y ρ H (dN kvs ak) o:=by
 obtain ⟨kk,hk,rfl⟩:=dc q2 rk
 obtain ⟨l1,l2⟩:=gI (KR:=gG) (R:=aY F y ρ H) (fun _ _ _ _ h1 h2=>fZ h1 h2) hk pr
 refine ⟨cX ks kk,.inl ⟨ks,kk,hr,rfl,rfl⟩,?_⟩
 cases z:dN kvs ak with
 | none=>exact l2 z
 | some av=>exact l1 av z
theorem yW {kvs:List (AV × AV)} {ks:List (List bj × V)} {a:Addr} (hr:Rd H a (.dT ks)) (pr:Paired (fun p q=>fY p.1 q.1 ∧ aY F y ρ H p.2 q.2) kvs ks) {ak:AV} {k:V} (q2:eZ ak = true) (rk:aY F y ρ H ak k):∃ o,gY H a k o ∧ Kz F y ρ H (dN kvs ak) o:=by
 obtain ⟨kk,b,hk,rfl,hb⟩:=tY q2 rk
 obtain ⟨l1,l2⟩:=gI (KR:=fY) (R:=aY F y ρ H) (fun _ _ _ _ h1 h2=>iP h1 h2) hk pr
 refine ⟨cX ks kk,.inr ⟨ks,kk,b,hr,rfl,hb,rfl⟩,?_⟩
 cases z:dN kvs ak with
 | none=>exact l2 z
 | some av=>exact l1 av z
theorem iQ (C:aM g F y ρ S H) {ax ak:AV} {x k:V} (rx:aY F y ρ H ax x) (rk:aY F y ρ H ak k) {r:Option AV} (h:ik S ax ak = some r):∃ a o,x = .ref a ∧ gY H a k o ∧ Kz F y ρ H r o:=by
 cases ax with
 | ref n =>
  unfold ik at h
  dsimp only at h
  cases q:S.t.get n with
  | none=>rw [q] at h; cases h
  | some ob =>
   rw [q] at h
   obtain ⟨a,ho,rfl,_,ha,obr⟩:=C.obj rx q
   cases ob with
   | dk kvs =>
    dsimp only at h
    cases q2:fg ak with
    | false=>rw [q2] at h; cases h
    | true =>
     rw [q2] at h; cases h
     obtain ⟨ks,rfl,pr⟩:=obr
     obtain ⟨o,h1,h2⟩:=yV (.inl ha) pr q2 rk
     exact ⟨a,o,rfl,h1,h2⟩
   | dt kvs =>
    dsimp only at h
    cases q2:eZ ak with
    | false=>rw [q2] at h; cases h
    | true =>
     rw [q2] at h; cases h
     obtain ⟨ks,rfl,pr⟩:=obr
     obtain ⟨o,h1,h2⟩:=yW (.inl ha) pr q2 rk
     exact ⟨a,o,rfl,h1,h2⟩
   | fz ob2 =>
    obtain ⟨o1,u,rfl,obr⟩:=obr
    cases ob2 with
    | dk kvs =>
     dsimp only at h
     cases q2:fg ak with
     | false=>rw [q2] at h; cases h
     | true =>
      rw [q2] at h; cases h
      obtain ⟨ks,rfl,pr⟩:=obr
      obtain ⟨o,h1,h2⟩:=yV (.inr ⟨_,ha⟩) pr q2 rk
      exact ⟨a,o,rfl,h1,h2⟩
    | dt kvs =>
     dsimp only at h
     cases q2:eZ ak with
     | false=>rw [q2] at h; cases h
     | true =>
      rw [q2] at h; cases h
      obtain ⟨ks,rfl,pr⟩:=obr
      obtain ⟨o,h1,h2⟩:=yW (.inr ⟨_,ha⟩) pr q2 rk
      exact ⟨a,o,rfl,h1,h2⟩
    | _=>cases h
   | _=>cases h
 | _=>cases h
theorem Cm (C:aM g F y ρ S H) {ax ak aw:AV} {x k w:V} (rx:aY F y ρ H ax x) (rk:aY F y ρ H ak k) (rw':aY F y ρ H aw w) {S':aT} (h:yU S ax ak aw = some S') :
  ∃ a H',x = .ref a ∧ qt H a k w H' ∧ aD F y ρ H y ρ H' ∧ aM g F y ρ S' H':=by
 cases ax with
 | ref n =>
  unfold yU at h
  dsimp only at h
  cases q:S.t.get n with
  | none=>rw [q] at h; cases h
  | some ob =>
   rw [q] at h
   cases ob with
   | dk kvs =>
    dsimp only at h
    cases q2:fg ak && Nat.ble kvs.length 1000 with
    | false=>rw [q2] at h; cases h
    | true =>
     rw [q2] at h; cases h
     rw [Bool.and_eq_true] at q2
     obtain ⟨a,ks,rfl,hρ,ha,pr⟩:=C.dk rx q
     obtain ⟨kk,hk,rfl⟩:=dc q2.1 rk
     have hl:=Paired.length pr
     have st:aD F y ρ H y ρ (upd H a (.dK (cR ks kk w))):=aD.set C hρ ha
     refine ⟨a,_,rfl,qt.k ha (by rw [← hl]; exact ce (bO q2.2)),st,C.set hρ ha (o:=.dk (qC kvs ak aw)) (ob:=⟨_,rfl,?_⟩)⟩
     exact nS (KR:=gG) (R:=aY F y ρ _) (fun _ _ _ _ h1 h2=>fZ h1 h2) hk (aY.mono st rw') (a0 (fun _ _ z=>⟨z.1,aY.mono st z.2⟩) pr)
   | dt kvs =>
    dsimp only at h
    cases q2:eZ ak && Nat.ble kvs.length 1000 with
    | false=>rw [q2] at h; cases h
    | true =>
     rw [q2] at h; cases h
     rw [Bool.and_eq_true] at q2
     obtain ⟨a,ks,rfl,hρ,ha,pr⟩:=C.dt rx q
     obtain ⟨kk,b,hk,rfl,hb⟩:=tY q2.1 rk
     have hl:=Paired.length pr
     have st:aD F y ρ H y ρ (upd H a (.dT (cR ks kk w))):=aD.set C hρ ha
     refine ⟨a,_,rfl,qt.t ha hb (by rw [← hl]; exact ce (bO q2.2)),st,C.set hρ ha (o:=.dt (qC kvs ak aw)) (ob:=⟨_,rfl,?_⟩)⟩
     exact nS (KR:=fY) (R:=aY F y ρ _) (fun _ _ _ _ h1 h2=>iP h1 h2) hk (aY.mono st rw') (a0 (fun _ _ z=>⟨z.1,aY.mono st z.2⟩) pr)
   | _=>cases h
 | _=>cases h
def lU (S:aT) (x:AV):Bool:=match x with
 | .ref n=>match S.t.get n with
  | some (.dk _)=>true
  | some (.dt _)=>true
  | _=>false
 | _=>false
theorem sf (C:aM g F y ρ S H) {ax:AV} {x:V} (rx:aY F y ρ H ax x) (h:lU S ax = true):∃ a,x = .ref a ∧ JW H a:=by
 cases ax with
 | ref n =>
  unfold lU at h
  dsimp only at h
  cases q:S.t.get n with
  | none=>rw [q] at h; cases h
  | some ob =>
   rw [q] at h
   cases ob with
   | dk kvs =>
    obtain ⟨a,ks,rfl,_,ha,pr⟩:=C.dk rx q
    exact ⟨a,rfl,.inl ⟨ks,.inl ha⟩⟩
   | dt kvs =>
    obtain ⟨a,ks,rfl,_,ha,pr⟩:=C.dt rx q
    exact ⟨a,rfl,.inr ⟨ks,.inl ha⟩⟩
   | _=>cases h
 | _=>cases h
end
def bM (a b:BE):BE:=fun σ S k=>a σ S fun x S1=>b σ S1 fun z S2=>match ik S2 x z with
 | some (some v)=>k v S2
 | _=>false
def vQ (b a:BE):BE:=fun σ S k=>b σ S fun z S1=>a σ S1 fun x S2=>match ik S2 x z with
 | some (some _)=>k (.bl true) S2
 | some none=>k (.bl false) S2
 | none=>false
def nU (b a:BE):BE:=fun σ S k=>b σ S fun z S1=>a σ S1 fun x S2=>match ik S2 x z with
 | some (some _)=>k (.bl false) S2
 | some none=>k (.bl true) S2
 | none=>false
def Gb (a b:BE):BE:=fun σ S k=>a σ S fun x S1=>match lU S1 x with
 | true=>b σ S1 fun z S2=>match ik S2 x z with
  | some (some v)=>k v S2
  | some none=>k .non S2
  | none=>false
 | false=>false
def Cn (a b c:BE):BE:=fun σ S k=>a σ S fun x S1=>match lU S1 x with
 | true=>b σ S1 fun z S2=>c σ S2 fun w S3=>match ik S3 x z with
  | some (some v)=>k v S3
  | some none=>k w S3
  | none=>false
 | false=>false
def Co (a b c:BE):BS:=fun d σ S=>c σ S fun v S1=>a σ S1 fun x S2=>b σ S2 fun z S3=>match yU S3 x z v with
 | some S4=>d.nx σ S4
 | none=>false
section
variable {g:Gx} {a b c e o i f value:Expr} {ba bb bc:BE} {br:BA} {pos pos':Pos}
theorem aV (hu:X.A.units + 1 < cLine) (ho:PE X o (up g ba)) (hi:PE X i (up g bb)) (hs:BC i):PE X (.Subscript o i pos) (up g (bM ba bb)):=by
 refine PE.imp (fun σ H Q ⟨F,y,ρ,S,σa,k,C,r,h,p⟩=>?_) (Ev hu ho hi hs)
 refine ay C r h fun y1 ρ1 S1 H1 ax x st C1 r1 rx h1=>ay C1 r1 h1 fun y2 ρ2 S2 H2 az z st2 C2 r2 rz h2=>?_
 cases q:ik S2 ax az with
 | none=>simp only [q] at h2; cases h2
 | some o=>cases o with
  | none=>simp only [q] at h2; cases h2
  | some v =>
   simp only [q] at h2
   obtain ⟨a,o,rfl,dg,w,rfl,rw'⟩:=iQ C2 (aY.mono st2 rx) rz q
   exact ⟨a,w,rfl,dg,p y2 ρ2 S2 H2 v w (st.trans st2) C2 rw' h2⟩
theorem yX:∀ σ H Q,up g (vQ bb ba) σ H Q → Jd (up g bb) (up g ba) σ H Q:=fun σ H Q ⟨F,y,ρ,S,σa,k,C,r,h,p⟩ =>
 ay C r h fun y1 ρ1 S1 H1 az z st C1 r1 rz h1=>ay C1 r1 h1 fun y2 ρ2 S2 H2 ax x st2 C2 r2 rx h2=>by
  cases q:ik S2 ax az with
  | none=>simp only [q] at h2; cases h2
  | some o =>
   obtain ⟨a,ov,rfl,dg,w⟩:=iQ C2 rx (aY.mono st2 rz) q
   refine ⟨a,ov,rfl,dg,?_⟩
   cases o with
   | none =>
    simp only [q] at h2
    cases (show ov = none from w)
    exact p y2 ρ2 S2 H2 (.bl false) _ (st.trans st2) C2 rfl h2
   | some v =>
    simp only [q] at h2
    obtain ⟨w,rfl,_⟩:=w
    exact p y2 ρ2 S2 H2 (.bl true) _ (st.trans st2) C2 rfl h2
theorem xt:∀ σ H Q,up g (nU bb ba) σ H Q → yD (up g bb) (up g ba) σ H Q:=fun σ H Q ⟨F,y,ρ,S,σa,k,C,r,h,p⟩ =>
 ay C r h fun y1 ρ1 S1 H1 az z st C1 r1 rz h1=>ay C1 r1 h1 fun y2 ρ2 S2 H2 ax x st2 C2 r2 rx h2=>by
  cases q:ik S2 ax az with
  | none=>simp only [q] at h2; cases h2
  | some o =>
   obtain ⟨a,ov,rfl,dg,w⟩:=iQ C2 rx (aY.mono st2 rz) q
   refine ⟨a,ov,rfl,dg,?_⟩
   cases o with
   | none =>
    simp only [q] at h2
    cases (show ov = none from w)
    exact p y2 ρ2 S2 H2 (.bl true) _ (st.trans st2) C2 rfl h2
   | some v =>
    simp only [q] at h2
    obtain ⟨w,rfl,_⟩:=w
    exact p y2 ρ2 S2 H2 (.bl false) _ (st.trans st2) C2 rfl h2
theorem Cp (hu:X.A.units + 1 < cLine) (hi:PE X i (up g bb)) (ho:PE X o (up g ba)) (h1:behindInMarks .In o = false):PE X (.Compare i [.In] [o] pos) (up g (vQ bb ba)):=PE.imp yX (oh (BD hu hi ho) h1)
theorem xu (hu:X.A.units + 1 < cLine) (hi:PE X i (up g bb)) (ho:PE X o (up g ba)) (h1:behindInMarks .In o = false):PT X (.Compare i [.In] [o] pos) (fw g (bB (vQ bb ba))):=PT.imp (fH yX) (cV (BD hu hi ho) h1)
theorem sg (hu:X.A.units + 1 < cLine) (hi:PE X i (up g bb)) (ho:PE X o (up g ba)) (h1:behindInMarks .NotIn o = false):PT X (.Compare i [.NotIn] [o] pos) (fw g (bB (nU bb ba))):=PT.imp (fH xt) (cV (zT hu hi ho) h1)
theorem ET {apos cpos:Pos} (hu:X.A.units + 1 < cLine) (ho:PE X o (up g ba)) (he:PE X e (up g bb)) (m:M1 X o "get" apos e cpos):PE X (.Call (.Attribute o "get" apos) [e] [] cpos) (up g (Gb ba bb)):=by
 refine PE.imp (fun σ H Q ⟨F,y,ρ,S,σa,k,C,r,h,p⟩=>?_) (BL hu ho he m)
 refine ay C r h fun y1 ρ1 S1 H1 ax x st C1 r1 rx h1=>?_
 cases q0:lU S1 ax with
 | false=>simp only [q0] at h1; cases h1
 | true =>
  simp only [q0] at h1
  obtain ⟨a,rfl,isd⟩:=sf C1 rx q0
  refine ⟨a,rfl,isd,ay C1 r1 h1 fun y2 ρ2 S2 H2 az z st2 C2 r2 rz h2=>?_⟩
  cases q:ik S2 ax az with
  | none=>simp only [q] at h2; cases h2
  | some o =>
   obtain ⟨a',ov,e,dg,w⟩:=iQ C2 (aY.mono st2 rx) rz q
   cases e
   refine ⟨ov,dg,?_⟩
   cases o with
   | none =>
    simp only [q] at h2
    cases (show ov = none from w)
    exact p y2 ρ2 S2 H2 .non _ (st.trans st2) C2 rfl h2
   | some v =>
    simp only [q] at h2
    obtain ⟨w,rfl,rw'⟩:=w
    exact p y2 ρ2 S2 H2 v _ (st.trans st2) C2 rw' h2
theorem yY {apos cpos:Pos} (hu:X.A.units + 1 < cLine) (ho:PE X o (up g ba)) (he:PE X e (up g bb)) (hf:PE X f (up g bc)) (m:M2 X o "get" apos e f cpos):PE X (.Call (.Attribute o "get" apos) [e,f] [] cpos) (up g (Cn ba bb bc)):=by
 refine PE.imp (fun σ H Q ⟨F,y,ρ,S,σa,k,C,r,h,p⟩=>?_) (BM hu ho he hf m)
 refine ay C r h fun y1 ρ1 S1 H1 ax x st C1 r1 rx h1=>?_
 cases q0:lU S1 ax with
 | false=>simp only [q0] at h1; cases h1
 | true =>
  simp only [q0] at h1
  obtain ⟨a,rfl,isd⟩:=sf C1 rx q0
  refine ⟨a,rfl,isd,ay C1 r1 h1 fun y2 ρ2 S2 H2 az z st2 C2 r2 rz h2=>ay C2 r2 h2 fun y3 ρ3 S3 H3 aw w st3 C3 r3 rw' h3=>?_⟩
  cases q:ik S3 ax az with
  | none=>simp only [q] at h3; cases h3
  | some o =>
   obtain ⟨a',ov,e,dg,u⟩:=iQ C3 (aY.mono (st2.trans st3) rx) (aY.mono st3 rz) q
   cases e
   refine ⟨ov,dg,?_⟩
   cases o with
   | none =>
    simp only [q] at h3
    cases (show ov = none from u)
    exact p y3 ρ3 S3 H3 aw _ ((st.trans st2).trans st3) C3 rw' h3
   | some v =>
    simp only [q] at h3
    obtain ⟨w,rfl,rw'⟩:=u
    exact p y3 ρ3 S3 H3 v _ ((st.trans st2).trans st3) C3 rw' h3
theorem yZ (hu:X.A.units + 1 < cLine) (ho:PE X o (up g ba)) (hi:PE X i (up g bb)) (hv:PE X value (up g bc)) (hs:swapsWith value (some (.Subscript o i pos')) pos.line X.env = pure false):PS X (.Assign [.Subscript o i pos'] value pos) (dh g (Co ba bb bc)):=by
 refine PS.imp (fun D σ H ⟨F,y,ρ,S,σa,d,C,r,h,p,_⟩=>?_) (Ew hu ho hi hv hs)
 refine ay C r h fun y1 ρ1 S1 H1 av v st C1 r1 rv h1=>ay C1 r1 h1 fun y2 ρ2 S2 H2 ax x st2 C2 r2 rx h2=>ay C2 r2 h2 fun y3 ρ3 S3 H3 az z st3 C3 r3 rz h3=>?_
 cases q:yU S3 ax az av with
 | none=>simp only [q] at h3; cases h3
 | some S4 =>
  simp only [q] at h3
  obtain ⟨a,H',rfl,dp,st4,C4⟩:=Cm C3 (aY.mono st3 rx) rz (aY.mono (st2.trans st3) rv) q
  exact ⟨a,H',rfl,dp,p y3 ρ3 S4 H' σa σ (((st.trans st2).trans st3).trans st4) C4 (bE.mono st4 r3) h3⟩
def jQ:BE:=fun _ S k=>k (.ref S.n) (S.add (.dk []))
def Cq:BE:=fun _ S k=>k (.ref S.n) (S.add (.dt []))
theorem gJ:PE X (.Dict [] [] pos) (up g jQ):=by
 refine PE.imp (fun σ H Q ⟨F,y,ρ,S,σa,k,C,r,h,p⟩=>?_) vy
 intro pl hp
 exact p y _ _ _ (.ref S.n) _ (aD.add hp) (C.add (o:=.dk []) hp ⟨[],rfl,.nil⟩) ⟨pl,by rw [C.n]; simp,rfl⟩ h
theorem Cr:PE X (.Dict [] [] pos) (up g Cq):=by
 refine PE.imp (fun σ H Q ⟨F,y,ρ,S,σa,k,C,r,h,p⟩=>?_) BJ
 intro pl hp
 exact p y _ _ _ (.ref S.n) _ (aD.add hp) (C.add (o:=.dt []) hp ⟨[],rfl,.nil⟩) ⟨pl,by rw [C.n]; simp,rfl⟩ h
def tZ (S:aT):AV → Option (List AV)
 | .ref n=>match S.t.get n with
  | some (.lst xs)=>some xs
  | _=>none
 | .tn=>some []
 | .tc h t=>vH (.tc h t)
 | _=>none
theorem nV {F:Fx} {S:aT} (C:aM g F y ρ S H) {ax:AV} {x:V} (rx:aY F y ρ H ax x) {xs:List AV} (h:tZ S ax = some xs):∃ vs,fX H x = some vs ∧ aX F y ρ H xs vs:=by
 have ch:∀ {ax:AV},aY F y ρ H ax x → vH ax = some xs → ∃ vs,fX H x = some vs ∧ aX F y ρ H xs vs:=fun {ax} rx h=>by
  rw [fB h] at rx
  obtain ⟨a,vs,rfl,ha,pr⟩:=rx.chain_of
  exact ⟨vs,z4 ha,pr⟩
 cases ax with
 | ref n =>
  unfold tZ at h
  cases q:S.t.get n with
  | none=>simp only [q] at h; cases h
  | some ob =>
   simp only [q] at h
   cases ob with
   | lst ys =>
    cases h
    obtain ⟨a,vs,rfl,_,ha,pr⟩:=C.lst rx q
    exact ⟨vs,zZ ha,pr⟩
   | _=>cases h
 | tn=>exact ch rx h
 | tc p q=>exact ch rx h
 | _=>cases h
def lV:AV → Option (List AV)
 | .tn=>some []
 | .tc h t=>vH (.tc h t)
 | _=>none
theorem gK:∀ {ax:AV} {xs:List AV},lV ax = some xs → ax = chain xs
 | .tn,_,h=>by cases h; rfl
 | .tc _ _,_,h=>fB h
 | .non,_,h=>by cases h
 | .bl _,_,h=>by cases h
 | .int _ _ _,_,h=>by cases h
 | .str _,_,h=>by cases h
 | .ref _,_,h=>by cases h
 | .ext _,_,h=>by cases h
theorem f6 {F:Fx} {ax:AV} {x:V} (rx:aY F y ρ H ax x) {xs:List AV} (h:lV ax = some xs):∃ a vs,x = .ref a ∧ H a = some (.tup vs) ∧ aX F y ρ H xs vs:=by
 rw [gK h] at rx
 exact rx.chain_of
def JY (xs:List AV) (i:Int):Option AV:=match i with
 | .ofNat j=>xs[j]?
 | .negSucc j=>match Nat.ble (j + 1) xs.length with
  | true=>xs[xs.length - (j + 1)]?
  | false=>none
theorem dO {F:Fx} {y:Option Int} {ρ:List Addr} {H:Hp}:∀ {xs:List AV} {vs:List V} {i:Nat} {av:AV},aX F y ρ H xs vs → xs[i]? = some av → ∃ v,vs[i]? = some v ∧ aY F y ρ H av v
 | _,_,_,_,.nil,e=>by simp at e
 | _,_,0,_,.cons r _,e=>by simp at e; subst e; exact ⟨_,rfl,r⟩
 | _,_,i + 1,av,.cons _ t,e=>by
  obtain ⟨v,h1,h2⟩:=dO (i:=i) (av:=av) t (by simpa using e)
  exact ⟨v,by simpa using h1,h2⟩
theorem Hr {F:Fx} {xs:List AV} {i:Int} {av:AV} (r:aX F y ρ H xs vs) (h:JY xs i = some av):∃ v,D7 vs i = some v ∧ aY F y ρ H av v:=by
 cases i with
 | ofNat j =>
  obtain ⟨v,h1,h2⟩:=dO r h
  exact ⟨v,yy h1,h2⟩
 | negSucc j =>
  unfold JY at h
  dsimp only at h
  cases q:Nat.ble (j + 1) xs.length with
  | false=>rw [q] at h; cases h
  | true =>
   rw [q] at h
   have hl:=aR r
   have hq:=bO q
   obtain ⟨v,h1,h2⟩:=dO r h
   refine ⟨v,?_,h2⟩
   unfold D7 Bw
   rw [if_neg (by omega),if_pos (by omega)]
   show vs[(Int.negSucc j + (vs.length:Int)).toNat]? = some v
   rw [← h1,hl]
   congr 1
   omega
def eU:AV → AV → aT → (AV → aT → Bool) → Bool:=fun a b S k=>match b with
 | .int false lo hi=>match eI lo hi && eI hi lo with
  | true=>match tZ S a with
   | some xs=>match JY xs lo with
    | some v=>k v S
    | none=>false
   | none=>false
  | false=>false
 | _=>false
theorem Hs:iN g Hc eU:=by
 intro F y ρ S H x z ax az k Q C rx rz h p
 cases az with
 | int s lo hi=>cases s with
  | true=>cases h
  | false =>
   unfold eU at h
   dsimp only at h
   cases q0:eI lo hi && eI hi lo with
   | false=>rw [q0] at h; cases h
   | true =>
    rw [q0] at h
    simp only [Bool.and_eq_true,bK] at q0
    obtain ⟨i,rfl,h1,h2⟩:=rz
    have:i = lo:=by omega
    subst this
    dsimp only at h
    cases q:tZ S ax with
    | none=>rw [q] at h; cases h
    | some xs =>
     rw [q] at h
     dsimp only at h
     cases q2:JY xs i with
     | none=>rw [q2] at h; cases h
     | some av =>
      rw [q2] at h
      obtain ⟨vs,e,pr⟩:=nV C rx q
      obtain ⟨v,e2,rv⟩:=Hr pr q2
      show on (fX H x) fun xs=>on (D7 xs i) fun v=>Q v H
      rw [e,bW,e2,bW]
      exact p.here C rv h
 | _=>cases h
theorem a8 (ha:PE X a (up g ba)) (hb:PE X b (up g bb)) (hs:yA b):PE X (.Subscript a b pos) (up g (bn eU ba bb)):=PE.imp (tS Hs) (FV Ku ha hb hs)
def iR (f:List AV → aT → (AV → aT → Bool) → Bool) (r:BA):BE:=fun σ S k=>r σ S fun xs S1=>f xs S1 k
theorem Cs {r:List V → Hp → VK → Prop} {f} (hf:nj g r f):∀ σ H Q,up g (iR f br) σ H Q → Iq r (jM g br) σ H Q:=fun σ H Q ⟨F,y,ρ,S,σa,k,C,r,h,p⟩ =>
 bT C r h fun y1 ρ1 S1 H1 ax x st C1 r1 rx h1=>hf F y1 ρ1 S1 H1 x ax k Q C1 rx h1 (p.mono st)
theorem bN {x:Str} {p:Pos} {id:String} {r:List V → Hp → VK → Prop} {f} (hc:dy X (.builtin id) r) (hf:nj g r f) (hg:Gl X x) (hm:X.mg x = none) (hv:bootBuiltins x = some (.builtin id)) (ha:PA X (e :: es) (jM g br)) (hn:x ≠ "__name__":=by decide) (hdb:(x == ("__debug__":Str)) = false:=by decide)
  (he:starEach (e :: es) X.env = (false,eval e X.env) :: starEach es X.env:=by with_unfolding_all rfl) (hpl:(backTo pos (starEach es X.env)).any (·.1) = false:=by with_unfolding_all rfl):PE X (.Call (.Name x p) (e :: es) [] pos) (up g (iR f br)):=PE.imp (Cs hf) (kj hc hg hm hv ha hn hdb he hpl)
theorem bY {x:Str} {p:Pos} {T:String} {r:List V → Hp → VK → Prop} {f} (hc:dy X (.type T) r) (hf:nj g r f) (hg:Gl X x) (hm:X.mg x = none) (hv:bootBuiltins x = some (.type T)) (ha:PA X (e :: es) (jM g br)) (hn:x ≠ "__name__":=by decide) (hdb:(x == ("__debug__":Str)) = false:=by decide)
  (he:starEach (e :: es) X.env = (false,eval e X.env) :: starEach es X.env:=by with_unfolding_all rfl) (hpl:(backTo pos (starEach es X.env)).any (·.1) = false:=by with_unfolding_all rfl):PE X (.Call (.Name x p) (e :: es) [] pos) (up g (iR f br)):=PE.imp (Cs hf) (rR hc hg hm hv ha hn hdb he hpl)
def t4:List AV → aT → (AV → aT → Bool) → Bool:=fun xs S k=>match xs with
 | [x]=>match tZ S x with
  | some ys=>k (.int false (.ofNat ys.length) (.ofNat ys.length)) S
  | none=>false
 | _=>false
theorem g8:nj g yH t4:=by
 intro F y ρ S H xs axs k Q C rx h p
 cases rx with
 | nil=>cases h
 | cons r t=>cases t with
  | cons _ _=>cases h
  | nil =>
   unfold t4 at h
   dsimp only at h
   split at h
   ·rename_i ys q
    obtain ⟨vs,e,pr⟩:=nV C r q
    unfold yH
    dsimp only
    rw [e,bW]
    have:=aR pr
    exact p.here C (av:=.int false _ _) ⟨_,rfl,by rw [← this]; exact Int.le_refl _,by rw [← this]; exact Int.le_refl _⟩ h
   ·cases h
def eg:List AV → aT → (AV → aT → Bool) → Bool:=fun xs S k=>match xs with
 | [x]=>match tZ S x with
  | some ys=>k (chain ys) S
  | none=>false
 | _=>false
theorem xv {S:aT} {F:Fx} {x:V} (C:aM g F y ρ S H):∀ {ax:AV} {xs:List AV} {vs:List V},aY F y ρ H ax x → tZ S ax = some xs → gC H x = some vs → ax = chain xs
 | .ref n,xs,vs,r,h,t=>by
  unfold tZ at h
  cases q:S.t.get n with
  | none=>simp only [q] at h; cases h
  | some ob =>
   simp only [q] at h
   cases ob with
   | lst ys =>
    obtain ⟨a,ws,rfl,_,ha,pr⟩:=C.lst r q
    simp [gC,ha] at t
   | _=>cases h
 | .tn,_,_,_,h,_=>by cases h; rfl
 | .tc _ _,_,_,_,h,_=>fB h
 | .non,_,_,_,h,_=>by cases h
 | .bl _,_,_,_,h,_=>by cases h
 | .int _ _ _,_,_,_,h,_=>by cases h
 | .str _,_,_,_,h,_=>by cases h
 | .ext _,_,_,_,h,_=>by cases h
theorem cz:nj g nM eg:=by
 intro F y ρ S H xs axs k Q C rx h p
 cases rx with
 | nil=>cases h
 | cons r t=>cases t with
  | cons _ _=>cases h
  | nil =>
   unfold eg at h
   dsimp only at h
   split at h
   ·rename_i ys q
    obtain ⟨vs,e,pr⟩:=nV C r q
    unfold nM
    dsimp only
    rw [e,bW]
    refine ⟨fun l hl=>?_,fun ht=>?_⟩
    ·have st:aD F y ρ H y ρ (upd H l (.tup vs)):=aD.lay hl
     exact p y ρ S _ (chain ys) _ st (C.lay hl) (aY.chain aC (aX.mono st pr)) h
    ·rw [xv C r q ht] at r
     exact p.here C r h
   ·cases h
def iS:AV → AV → aT → (AV → aT → Bool) → Bool:=fun a b S k=>match lV a with
 | some xs=>match lV b with
  | some ys=>match Nat.ble (xs.length + ys.length) 1000 with
   | true=>k (chain (xs ++ ys)) S
   | false=>false
  | none=>false
 | none=>false
theorem c3 {F:Fx} {y:Option Int} {ρ:List Addr} {H:Hp}:∀ {xs ys:List AV} {vs ws:List V},aX F y ρ H xs vs → aX F y ρ H ys ws → aX F y ρ H (xs ++ ys) (vs ++ ws)
 | _,_,_,_,.nil,s=>s
 | _,_,_,_,.cons r t,s=>.cons r (c3 t s)
theorem dP:iN g xj iS:=by
 intro F y ρ S H x z ax az k Q C rx rz h p
 unfold iS at h
 split at h
 ·rename_i xs q
  split at h
  ·rename_i ys q2
   split at h
   ·rename_i q3
    obtain ⟨a,vs,rfl,ha,pr⟩:=f6 rx q
    obtain ⟨b,ws,rfl,hb,pr2⟩:=f6 rz q2
    have l1:=aR pr
    have l2:=aR pr2
    have l3:=bO q3
    unfold xj
    rw [gE ha,bW,gE hb,bW]
    refine ⟨Nat.le_of_lt (ce (by omega)),fun e=>?_,fun e=>?_,fun pl hp=>?_⟩
    ·subst e
     cases pr
     have e:=gK q2
     subst e
     exact p.here C rz h
    ·subst e
     cases pr2
     have e:=gK q
     rw [List.append_nil] at h
     subst e
     exact p.here C rx h
    ·have st:aD F y ρ H y ρ (upd H pl (.tup (vs ++ ws))):=aD.lay hp
     exact p y ρ S _ _ _ st (C.lay hp) (aY.chain aC (aX.mono st (c3 pr pr2))) h
   ·cases h
  ·cases h
 ·cases h
def jl (S:aT):AV → Option (List AV)
 | .ref n=>match S.t.get n with
  | some (.lst xs)=>some xs
  | _=>none
 | _=>none
theorem c6 {F:Fx} {S:aT} (C:aM g F y ρ S H) {ax:AV} {x:V} (rx:aY F y ρ H ax x) {xs:List AV} (h:jl S ax = some xs):∃ n a vs,ax = .ref n ∧ x = .ref a ∧ ρ[n]? = some a ∧ H a = some (.lst vs) ∧ aX F y ρ H xs vs:=by
 cases ax with
 | ref n =>
  unfold jl at h
  cases q:S.t.get n with
  | none=>simp only [q] at h; cases h
  | some ob =>
   simp only [q] at h
   cases ob with
   | lst ys =>
    cases h
    obtain ⟨a,vs,rfl,h2,ha,pr⟩:=C.lst rx q
    exact ⟨n,a,vs,rfl,rfl,h2,ha,pr⟩
   | _=>cases h
 | _=>cases h
def sh:AV → AV → aT → (AV → aT → Bool) → Bool:=fun a b S k=>match jl S a with
 | some xs=>match jl S b with
  | some ys=>match Nat.ble (xs.length + ys.length) 1000 with
   | true=>k (.ref S.n) (S.add (.lst (xs ++ ys)))
   | false=>false
  | none=>false
 | none=>false
theorem kU:iN g BX sh:=by
 intro F y ρ S H x z ax az k Q C rx rz h p
 unfold sh at h
 split at h
 ·rename_i xs q
  split at h
  ·rename_i ys q2
   split at h
   ·rename_i q3
    obtain ⟨n,a,vs,rfl,rfl,h2,ha,pr⟩:=c6 C rx q
    obtain ⟨m,b,ws,rfl,rfl,h3,hb,pr2⟩:=c6 C rz q2
    have l1:=aR pr
    have l2:=aR pr2
    have l3:=bO q3
    show (match H a,H b with
     | some (.lst xs),some (.lst zs)=>xs.length + zs.length ≤ sizeLine ∧ ∀ p,H p = none → Q (.ref p) (upd H p (.lst (xs ++ zs)))
     | _,_=>False)
    rw [ha,hb]
    refine ⟨Nat.le_of_lt (ce (by omega)),fun pl hp=>?_⟩
    have st:aD F y ρ H y (ρ ++ [pl]) (upd H pl (.lst (vs ++ ws))):=aD.add hp
    exact p y _ _ _ (.ref S.n) _ st (C.add (o:=.lst (xs ++ ys)) hp ⟨_,rfl,aX.mono st (c3 pr pr2)⟩) ⟨pl,by rw [C.n]; simp,rfl⟩ h
   ·cases h
  ·cases h
 ·cases h
end
section
variable {g:Gx} {a b c e o:Expr} {ba bb bc:BE} {bt:BT} {br:BA}
def Ab (a b:Int):Int:=match eI a b with
 | true=>b
 | false=>a
def Ac (a b:Int):Int:=match eI a b with
 | true=>a
 | false=>b
theorem nW (a b:Int):Ab a b = max a b:=by
 unfold Ab
 cases h:eI a b with
 | true=>rw [bK] at h; show b = _; omega
 | false =>
  have:¬ a ≤ b:=fun q=>by rw [bK.mpr q] at h; cases h
  show a = _; omega
theorem nX (a b:Int):Ac a b = min a b:=by
 unfold Ac
 cases h:eI a b with
 | true=>rw [bK] at h; show a = _; omega
 | false =>
  have:¬ a ≤ b:=fun q=>by rw [bK.mpr q] at h; cases h
  show b = _; omega
def Ct:List AV → aT → (AV → aT → Bool) → Bool:=fun xs S k=>match xs with
 | [.int false lo hi,.int false lo' hi']=>k (.int false (Ab lo lo') (Ab hi hi')) S
 | [.int true lo hi,.int true lo' hi']=>k (.int true (Ab lo lo') (Ab hi hi')) S
 | [.int false lo hi,.int true lo' hi']=>match eI hi lo' with
  | true=>k (.int true lo' hi') S
  | false=>false
 | [.int true lo hi,.int false lo' hi']=>match eI hi' lo with
  | true=>k (.int true lo hi) S
  | false=>false
 | _=>false
def Ht:List AV → aT → (AV → aT → Bool) → Bool:=fun xs S k=>match xs with
 | [.int false lo hi,.int false lo' hi']=>k (.int false (Ac lo lo') (Ac hi hi')) S
 | [.int true lo hi,.int true lo' hi']=>k (.int true (Ac lo lo') (Ac hi hi')) S
 | [.int false lo hi,.int true lo' hi']=>match eI hi lo' with
  | true=>k (.int false lo hi) S
  | false=>false
 | [.int true lo hi,.int false lo' hi']=>match eI hi' lo with
  | true=>k (.int false lo' hi') S
  | false=>false
 | _=>false
theorem t5:nj g xn Ct:=by
 intro F y ρ S H xs axs k Q C rx h p
 unfold Ct at h
 split at h
 ·cases rx with | cons r t=>cases t with | cons r' t'=>cases t' with | nil =>
  obtain ⟨i,rfl,a1,a2⟩:=r
  obtain ⟨j,rfl,a3,a4⟩:=r'
  show Q (.int (if j > i then j else i)) H
  refine p.here C (av:=.int false _ _) ⟨_,rfl,?_⟩ h
  rw [nW,nW]
  split <;> constructor <;> omega
 ·cases rx with | cons r t=>cases t with | cons r' t'=>cases t' with | nil =>
  obtain ⟨x,i,e,rfl,a1,a2⟩:=r
  obtain ⟨x',j,e',rfl,a3,a4⟩:=r'
  rw [e] at e'; cases e'
  show Q (.int (if j > i then j else i)) H
  refine p.here C (av:=.int true _ _) ⟨x,_,e,rfl,?_⟩ h
  rw [nW,nW]
  split <;> constructor <;> omega
 ·split at h
  ·rename_i q
   rw [bK] at q
   cases rx with | cons r t=>cases t with | cons r' t'=>cases t' with | nil =>
   obtain ⟨i,rfl,a1,a2⟩:=r
   obtain ⟨x',j,e',rfl,a3,a4⟩:=r'
   have:=C.pos _ e'
   show Q (.int (if j > i then j else i)) H
   refine p.here C (av:=.int true _ _) ⟨x',_,e',rfl,?_⟩ h
   split <;> constructor <;> omega
  ·cases h
 ·split at h
  ·rename_i q
   rw [bK] at q
   cases rx with | cons r t=>cases t with | cons r' t'=>cases t' with | nil =>
   obtain ⟨x',i,e',rfl,a1,a2⟩:=r
   obtain ⟨j,rfl,a3,a4⟩:=r'
   have:=C.pos _ e'
   show Q (.int (if j > i then j else i)) H
   refine p.here C (av:=.int true _ _) ⟨x',_,e',rfl,?_⟩ h
   split <;> constructor <;> omega
  ·cases h
 ·cases h
theorem EU:nj g xo Ht:=by
 intro F y ρ S H xs axs k Q C rx h p
 unfold Ht at h
 split at h
 ·cases rx with | cons r t=>cases t with | cons r' t'=>cases t' with | nil =>
  obtain ⟨i,rfl,a1,a2⟩:=r
  obtain ⟨j,rfl,a3,a4⟩:=r'
  show Q (.int (if j < i then j else i)) H
  refine p.here C (av:=.int false _ _) ⟨_,rfl,?_⟩ h
  rw [nX,nX]
  split <;> constructor <;> omega
 ·cases rx with | cons r t=>cases t with | cons r' t'=>cases t' with | nil =>
  obtain ⟨x,i,e,rfl,a1,a2⟩:=r
  obtain ⟨x',j,e',rfl,a3,a4⟩:=r'
  rw [e] at e'; cases e'
  show Q (.int (if j < i then j else i)) H
  refine p.here C (av:=.int true _ _) ⟨x,_,e,rfl,?_⟩ h
  rw [nX,nX]
  split <;> constructor <;> omega
 ·split at h
  ·rename_i q
   rw [bK] at q
   cases rx with | cons r t=>cases t with | cons r' t'=>cases t' with | nil =>
   obtain ⟨i,rfl,a1,a2⟩:=r
   obtain ⟨x',j,e',rfl,a3,a4⟩:=r'
   have:=C.pos _ e'
   show Q (.int (if j < i then j else i)) H
   refine p.here C (av:=.int false _ _) ⟨_,rfl,?_⟩ h
   split <;> constructor <;> omega
  ·cases h
 ·split at h
  ·rename_i q
   rw [bK] at q
   cases rx with | cons r t=>cases t with | cons r' t'=>cases t' with | nil =>
   obtain ⟨x',i,e',rfl,a1,a2⟩:=r
   obtain ⟨j,rfl,a3,a4⟩:=r'
   have:=C.pos _ e'
   show Q (.int (if j < i then j else i)) H
   refine p.here C (av:=.int false _ _) ⟨_,rfl,?_⟩ h
   split <;> constructor <;> omega
  ·cases h
 ·cases h
inductive Iw | int | bool | tuple
def Iw.name:Iw → String
 | .int=>"int"
 | .bool=>"bool"
 | .tuple=>"tuple"
def Jq (t:Iw):AV → Option Bool
 | .non=>some false
 | .bl _=>match t with
  | .tuple=>some false
  | _=>some true
 | .int _ _ _=>match t with
  | .int=>some true
  | _=>some false
 | .str _=>some false
 | .tn=>match t with
  | .tuple=>some true
  | _=>some false
 | .tc _ _=>match t with
  | .tuple=>some true
  | _=>some false
 | _=>none
theorem EV {F:Fx} {t:Iw} {ax:AV} {x:V} {b:Bool} (r:aY F y ρ H ax x) (h:Jq t ax = some b):∃ n,EA H x = some n ∧ BQ n t.name = some b:=by
 cases ax with
 | non=>cases (show x = .non from r); cases t <;> cases h <;> exact ⟨_,rfl,rfl⟩
 | bl c=>cases (show x = .bl c from r); cases t <;> cases h <;> exact ⟨_,rfl,rfl⟩
 | int s lo hi=>obtain ⟨z,rfl,_⟩:=bF.mp r; cases t <;> cases h <;> exact ⟨_,rfl,rfl⟩
 | str i=>obtain ⟨w,_,rfl⟩:=r; cases t <;> cases h <;> exact ⟨_,rfl,rfl⟩
 | tn =>
  obtain ⟨a,rfl,ha⟩:=r
  have e:EA H (.ref a) = some "tuple":=by simp [EA,ha]
  cases t <;> cases h <;> exact ⟨_,e,rfl⟩
 | tc p q =>
  obtain ⟨a,_,_,rfl,ha,_⟩:=r
  have e:EA H (.ref a) = some "tuple":=by simp [EA,ha]
  cases t <;> cases h <;> exact ⟨_,e,rfl⟩
 | _=>cases h
def EW (t:Iw) (a:BE):BE:=fun σ S k=>a σ S fun x S1=>kb (Jq t x) S1 k
theorem xw (t:Iw) {p:Pos} {T:Expr} (hg:Gl X "isinstance") (hm:X.mg "isinstance" = none) (ha:PE X e (up g ba)) (hT:PE X T (tC (.ty t.name)))
  (he:starEach [e,T] X.env = (false,eval e X.env) :: starEach [T] X.env:=by with_unfolding_all rfl) (he2:starEach [T] X.env = (false,eval T X.env) :: starEach [] X.env:=by with_unfolding_all rfl) (hpl:(backTo pos (starEach [T] X.env)).any (·.1) = false:=by with_unfolding_all rfl):PE X (.Call (.Name "isinstance" p) [e,T] [] pos) (up g (EW t ba)):=by
 refine PE.imp (fun σ H Q ⟨F,y,ρ,S,σa,k,C,r,h,p⟩=>?_) (kj BV hg hm lO (fW ha (fW hT jJ he2) he) (by decide) (by decide) he hpl)
 refine ay C r h fun y1 ρ1 S1 H1 ax x st C1 r1 rx h1=>?_
 obtain ⟨b,e,hk⟩:=g7 h1
 obtain ⟨n,e1,e2⟩:=EV rx e
 show BU [x,.ty t.name] H1 Q
 unfold BU
 simp only [e1,e2]
 exact p y1 ρ1 S1 H1 (.bl b) _ st C1 rfl hk
def Ad (S:aT):AV → Option Bool
 | .non=>some false
 | .bl b=>some b
 | .tn=>some false
 | .tc _ _=>some true
 | .ref n=>match S.t.get n with
  | some (.lst xs)=>some (!xs.isEmpty)
  | some (.dk xs)=>some (!xs.isEmpty)
  | _=>none
 | _=>none
theorem g9 {α β:Type} {R:α → β → Prop} {xs:List α} {ys:List β} (p:Paired R xs ys):xs.isEmpty = ys.isEmpty:=by cases p <;> rfl
theorem y8 {F:Fx} {S:aT} (C:aM g F y ρ S H) {ax:AV} {x:V} {b:Bool} (r:aY F y ρ H ax x) (h:Ad S ax = some b):qA H x = some b:=by
 cases ax with
 | non=>cases (show x = .non from r); exact h
 | bl c=>cases (show x = .bl c from r); exact h
 | tn=>obtain ⟨a,rfl,ha⟩:=r; cases h; simp [qA,ha]
 | tc p q=>obtain ⟨a,_,_,rfl,ha,_⟩:=r; cases h; simp [qA,ha]
 | ref n =>
  unfold Ad at h
  cases q:S.t.get n with
  | none=>simp only [q] at h; cases h
  | some ob =>
   simp only [q] at h
   cases ob with
   | lst ys =>
    cases h
    obtain ⟨a,vs,rfl,_,ha,pr⟩:=C.lst r q
    simp only [qA,ha,g9 pr]
   | dk ys =>
    cases h
    obtain ⟨a,vs,rfl,_,ha,pr⟩:=C.dk r q
    simp only [qA,ha,g9 pr]
   | _=>cases h
 | _=>cases h
def gL (a:BE):BT:=fun σ S k=>a σ S fun x S1=>match Ad S1 x with
 | some b=>k b S1
 | none=>false
theorem cH (h:PT X a (B0 (up g ba))):PT X a (fw g (gL ba)):=by
 refine PT.imp (fun σ H Q ⟨F,y,ρ,S,σa,k,C,r,h,p⟩=>?_) h
 refine ay C r h fun y1 ρ1 S1 H1 ax x st C1 r1 rx h1=>?_
 cases q:Ad S1 ax with
 | none=>simp only [q] at h1; cases h1
 | some b =>
  simp only [q] at h1
  rw [y8 C1 rx q,bW]
  exact p y1 ρ1 S1 H1 b st C1 h1
def si:AV → Bool
 | .non=>true
 | .bl _=>true
 | .int _ _ _=>true
 | .str _=>true
 | _=>false
def EY (x:AV):List AV → Option Bool
 | []=>some false
 | z :: r=>match F9 z x with
  | some true=>match r.all si with
   | true=>some true
   | false=>none
  | some false=>EY x r
  | none=>none
theorem oS {F:Fx} {ax:AV} {x:V} (r:aY F y ρ H ax x) (h:si ax = true):eM x = true:=by
 cases ax with
 | non=>cases (show x = .non from r); rfl
 | bl c=>cases (show x = .bl c from r); rfl
 | int s lo hi=>obtain ⟨z,rfl,_⟩:=bF.mp r; rfl
 | str i=>obtain ⟨w,_,rfl⟩:=r; rfl
 | _=>cases h
theorem EZ {x z:V} (h:Bn x z = true) (hx:eM x = true):wO x z = decide (x = z):=by
 cases x <;> cases z <;> simp_all [Bn,eM,wO] <;> rfl
theorem Cu {F:Fx} {y:Option Int} {ρ:List Addr} {H:Hp} {ax az:AV} {b:Bool} (h:F9 ax az = some b):si ax = true ∧ si az = true:=by
 cases ax <;> cases az <;> first | (cases h; done) | exact ⟨rfl,rfl⟩
theorem y9 {F:Fx} {y:Option Int} {ρ:List Addr} {H:Hp} (hy:∀ x,y = some x → 1 ≤ x) {ax:AV} {x:V} (r:aY F y ρ H ax x):∀ {zs:List AV} {vs:List V} {b:Bool},aX F y ρ H zs vs → EY ax zs = some b → D8 x vs = b ∧ vs.all eM = true
 | _,_,_,.nil,h=>by cases h; exact ⟨rfl,rfl⟩
 | _,_,b,.cons (a:=az) (b:=z) (l₁:=l₁) (l₂:=l₂) rz t,h=>by
  unfold EY at h
  cases q:F9 az ax with
  | none=>simp only [q] at h; cases h
  | some c =>
   obtain ⟨h1,h2⟩:=xr hy rz r q
   have fz:=oS rz (Cu (F:=F) (y:=y) (ρ:=ρ) (H:=H) q).1
   have e1:wO z x = c:=by rw [EZ h1 fz]; exact h2
   cases c with
   | true =>
    simp only [q] at h
    cases q2:l₁.all si with
    | false=>rw [q2] at h; cases h
    | true =>
     rw [q2] at h; cases h
     refine ⟨by simp [D8,e1],?_⟩
     rw [List.all_cons,fz,Bool.true_and]
     clear h1 h2 e1 fz rz q
     induction t with
     | nil=>rfl
     | cons r' t' ih =>
      rw [List.all_cons,Bool.and_eq_true] at q2
      rw [List.all_cons,oS r' q2.1,ih q2.2]; rfl
   | false =>
    simp only [q] at h
    obtain ⟨k1,k2⟩:=y9 hy r t h
    refine ⟨?_,by rw [List.all_cons,fz,k2]; rfl⟩
    have:D8 x (z :: l₂) = (wO z x || D8 x l₂):=rfl
    rw [this,e1,k1]; rfl
def Iy (neg:Bool):AV → AV → aT → (AV → aT → Bool) → Bool:=fun x s S k=>match si x with
 | true=>match tZ S s with
  | some zs=>match EY x zs with
   | some b=>k (.bl (match neg with | true=>!b | false=>b)) S
   | none=>false
  | none=>false
 | false=>false
theorem t6 {neg:Bool}:iN g (EI neg) (Iy neg):=by
 intro F y ρ S H x z ax az k Q C rx rz h p
 unfold Iy at h
 split at h
 ·rename_i q0
  split at h
  ·rename_i zs q
   split at h
   ·rename_i b q2
    obtain ⟨vs,e,pr⟩:=nV C rz q
    obtain ⟨k1,k2⟩:=y9 C.pos rx pr q2
    unfold EI
    rw [e,bW]
    refine ⟨oS rx q0,k2,?_⟩
    rw [k1]
    refine p.here C (av:=.bl _) ?_ h
    cases neg <;> rfl
   ·cases h
  ·cases h
 ·cases h
def qD (y:Option Int):AV → D → Prop
 | .non,d=>d = .non
 | .bl b,d=>d = .bl b
 | .int s lo hi,d=>∃ z,d = .int z ∧ Bd y s lo hi z
 | .str i,d=>∃ x,bf[i]? = some x ∧ d = .str x
 | .tn,d=>d = .tup []
 | .tc h t,d=>∃ x r,d = .tup (x :: r) ∧ qD y h x ∧ qD y t (.tup r)
 | _,_=>False
def Hu:AV → AV → Option Bool
 | .tn,.tn=>some true
 | .tn,.tc _ _=>some false
 | .tc _ _,.tn=>some false
 | .tc a b,.tc c d=>match Hu a c with
  | some true=>Hu b d
  | some false=>some false
  | none=>none
 | .tn,.non=>some false | .tn,.bl _=>some false | .tn,.int _ _ _=>some false | .tn,.str _=>some false
 | .tc _ _,.non=>some false | .tc _ _,.bl _=>some false | .tc _ _,.int _ _ _=>some false | .tc _ _,.str _=>some false
 | .non,.tn=>some false | .bl _,.tn=>some false | .int _ _ _,.tn=>some false | .str _,.tn=>some false
 | .non,.tc _ _=>some false | .bl _,.tc _ _=>some false | .int _ _ _,.tc _ _=>some false | .str _,.tc _ _=>some false
 | a,b=>F9 a b
def qE:AV → Option Nat
 | .tn=>some 1
 | .tc h t=>match qE h,qE t with
  | some m,some n=>some (max (m + 1) n)
  | _,_=>none
 | .ref _=>none
 | .ext _=>none
 | _=>some 0
end
section
variable {F:Fx}
theorem Ae:∀ (av:AV) {n:Nat},qE av = some n → (∀ v,aY F y ρ H av v → ∃ d,cm H d v ∧ qD y av d ∧ nh d ≤ n) ∧ (∀ vs,z9 F y ρ H av vs → ∃ ds,cn H ds vs ∧ qD y av (.tup ds) ∧ jh ds + 1 ≤ n)
 | .non,n,h=>by
  cases h
  exact ⟨fun v r=>⟨.non,by cases (show v = .non from r); exact cm.non,rfl,by simp [nh]⟩,fun _ r=>r.elim⟩
 | .bl b,n,h=>by
  cases h
  exact ⟨fun v r=>⟨.bl b,by cases (show v = .bl b from r); exact cm.bl,rfl,by simp [nh]⟩,fun _ r=>r.elim⟩
 | .int s lo hi,n,h=>by
  cases h
  refine ⟨fun v r=>?_,fun _ r=>by cases s <;> exact r.elim⟩
  obtain ⟨z,rfl,b⟩:=bF.mp r
  exact ⟨.int z,cm.int,⟨z,rfl,b⟩,by simp [nh]⟩
 | .str i,n,h=>by
  cases h
  refine ⟨fun v r=>?_,fun _ r=>r.elim⟩
  obtain ⟨x,e,rfl⟩:=r
  exact ⟨.str x,cm.str,⟨x,e,rfl⟩,by simp [nh]⟩
 | .ref _,_,h=>by cases h
 | .ext _,_,h=>by cases h
 | .tn,n,h=>by
  cases h
  refine ⟨fun v r=>?_,fun vs r=>?_⟩
  ·obtain ⟨a,rfl,ha⟩:=r
   exact ⟨.tup [],cm.tup ha .nil,rfl,by simp [nh,jh]⟩
  ·cases (show vs = [] from r)
   exact ⟨[],.nil,rfl,by simp [jh]⟩
 | .tc p q,n,h=>by
  unfold qE at h
  cases e1:qE p with
  | none=>simp only [e1] at h; cases h
  | some m=>cases e2:qE q with
   | none=>simp only [e1,e2] at h; cases h
   | some l =>
    simp only [e1,e2] at h
    cases h
    obtain ⟨p1,_⟩:=Ae p e1
    obtain ⟨_,q2⟩:=Ae q e2
    have tl:∀ w ws,aY F y ρ H p w → z9 F y ρ H q ws → ∃ ds,cn H ds (w :: ws) ∧ qD y (.tc p q) (.tup ds) ∧ jh ds + 1 ≤ max (m + 1) l:=fun w ws rw' rws=>by
     obtain ⟨d,a1,a2,a3⟩:=p1 w rw'
     obtain ⟨ds,b1,b2,b3⟩:=q2 ws rws
     refine ⟨d :: ds,.cons a1 b1,⟨d,ds,rfl,a2,b2⟩,?_⟩
     rw [jh]
     omega
    refine ⟨fun v r=>?_,fun vs r=>?_⟩
    ·obtain ⟨a,w,ws,rfl,ha,r1,r2⟩:=r
     obtain ⟨ds,b1,b2,b3⟩:=tl w ws r1 r2
     exact ⟨.tup ds,cm.tup ha b1,b2,by rw [nh]; exact b3⟩
    ·obtain ⟨w,ws,rfl,r1,r2⟩:=r
     exact tl w ws r1 r2
theorem cP (hy:∀ x,y = some x → 1 ≤ x) {a b:AV} {d e:D} {c:Bool} (h1:qD y a d) (h2:qD y b e) (h:F9 a b = some c):cj d e = c:=by
 cases a with
 | non =>
  cases (show d = .non from h1)
  cases b with
  | non=>cases (show e = .non from h2); cases h; simp [cj]
  | int s lo hi=>obtain ⟨j,rfl,_⟩:=h2; cases h; simp [cj]
  | bl x=>cases (show e = .bl x from h2); cases h; simp [cj]
  | str i=>obtain ⟨w,_,rfl⟩:=h2; cases h; simp [cj]
  | _=>cases h
 | int s lo hi =>
  obtain ⟨i,rfl,b1⟩:=h1
  cases b with
  | non=>cases (show e = .non from h2); cases h; simp [cj]
  | int s' lo' hi' =>
   obtain ⟨j,rfl,b2⟩:=h2
   have:=Cj hy b1 b2 h
   rw [cj,← this]
   by_cases q:i = j <;> simp [q]
  | str i=>obtain ⟨w,_,rfl⟩:=h2; cases h; simp [cj]
  | _=>cases h
 | bl x =>
  cases (show d = .bl x from h1)
  cases b with
  | non=>cases (show e = .non from h2); cases h; simp [cj]
  | bl z=>cases (show e = .bl z from h2); cases h; simp [cj]
  | str i=>obtain ⟨w,_,rfl⟩:=h2; cases h; simp [cj]
  | _=>cases h
 | str i =>
  obtain ⟨w,e1,rfl⟩:=h1
  cases b with
  | non=>cases (show e = .non from h2); cases h; simp [cj]
  | int s lo hi=>obtain ⟨j,rfl,_⟩:=h2; cases h; simp [cj]
  | bl x=>cases (show e = .bl x from h2); cases h; simp [cj]
  | str j =>
   obtain ⟨w',e2,rfl⟩:=h2
   cases h
   rw [cj,fU]
   by_cases q:i = j
   ·subst q
    rw [e1] at e2; cases e2
    simp
   ·have:¬ w = w':=fun e=>q (by subst e; exact d9 e1 e2)
    simp [q,this]
  | _=>cases h
 | _=>cases b <;> cases h
theorem vR {a:AV} {d:D} (h:qD y a d) (hc:a = .tn ∨ ∃ p q,a = .tc p q):∃ ds,d = .tup ds:=by
 rcases hc with rfl | ⟨p,q,rfl⟩
 ·exact ⟨[],h⟩
 ·obtain ⟨x,r,e,_⟩:=h; exact ⟨_,e⟩
theorem za (hy:∀ x,y = some x → 1 ≤ x):∀ (a b:AV) {d e:D} {c:Bool},qD y a d → qD y b e → Hu a b = some c → cj d e = c
 | .tn,.tn,d,e,c,h1,h2,h=>by cases (show d = .tup [] from h1); cases (show e = .tup [] from h2); cases h; simp [cj,gZ]
 | .tn,.tc _ _,d,e,c,h1,⟨x,r,h2,_⟩,h=>by cases (show d = .tup [] from h1); subst h2; cases h; simp [cj,gZ]
 | .tc _ _,.tn,d,e,c,⟨x,r,h1,_⟩,h2,h=>by cases (show e = .tup [] from h2); subst h1; cases h; simp [cj,gZ]
 | .tc a b,.tc p q,d,e,c,⟨x,r,h1,h3,h4⟩,⟨x',r',h2,h5,h6⟩,h=>by
  subst h1 h2
  unfold Hu at h
  cases z:Hu a p with
  | none=>simp only [z] at h; cases h
  | some t =>
   have e1:=za hy a p h3 h5 z
   cases t with
   | true =>
    simp only [z] at h
    have e2:=za hy b q h4 h6 h
    rw [cj] at e2 ⊢
    rw [gZ,e1,e2]; rfl
   | false =>
    simp only [z] at h
    cases h
    rw [cj,gZ,e1]; rfl
 | .tn,.non,d,e,c,h1,h2,h=>by cases h; cases (show d = .tup [] from h1); cases (show e = .non from h2); simp [cj]
 | .tn,.bl x,d,e,c,h1,h2,h=>by cases h; cases (show d = .tup [] from h1); cases (show e = .bl x from h2); simp [cj]
 | .tn,.int _ _ _,d,e,c,h1,⟨z,h2,_⟩,h=>by cases h; cases (show d = .tup [] from h1); subst h2; simp [cj]
 | .tn,.str _,d,e,c,h1,⟨z,_,h2⟩,h=>by cases h; cases (show d = .tup [] from h1); subst h2; simp [cj]
 | .tc _ _,.non,d,e,c,⟨x,r,h1,_⟩,h2,h=>by cases h; subst h1; cases (show e = .non from h2); simp [cj]
 | .tc _ _,.bl x,d,e,c,⟨_,r,h1,_⟩,h2,h=>by cases h; subst h1; cases (show e = .bl x from h2); simp [cj]
 | .tc _ _,.int _ _ _,d,e,c,⟨x,r,h1,_⟩,⟨z,h2,_⟩,h=>by cases h; subst h1; subst h2; simp [cj]
 | .tc _ _,.str _,d,e,c,⟨x,r,h1,_⟩,⟨z,_,h2⟩,h=>by cases h; subst h1; subst h2; simp [cj]
 | .non,.tn,d,e,c,h1,h2,h=>by cases h; cases (show d = .non from h1); cases (show e = .tup [] from h2); simp [cj]
 | .bl x,.tn,d,e,c,h1,h2,h=>by cases h; cases (show d = .bl x from h1); cases (show e = .tup [] from h2); simp [cj]
 | .int _ _ _,.tn,d,e,c,⟨z,h1,_⟩,h2,h=>by cases h; subst h1; cases (show e = .tup [] from h2); simp [cj]
 | .str _,.tn,d,e,c,⟨z,_,h1⟩,h2,h=>by cases h; subst h1; cases (show e = .tup [] from h2); simp [cj]
 | .non,.tc _ _,d,e,c,h1,⟨x,r,h2,_⟩,h=>by cases h; cases (show d = .non from h1); subst h2; simp [cj]
 | .bl x,.tc _ _,d,e,c,h1,⟨_,r,h2,_⟩,h=>by cases h; cases (show d = .bl x from h1); subst h2; simp [cj]
 | .int _ _ _,.tc _ _,d,e,c,⟨z,h1,_⟩,⟨x,r,h2,_⟩,h=>by cases h; subst h1; subst h2; simp [cj]
 | .str _,.tc _ _,d,e,c,⟨z,_,h1⟩,⟨x,r,h2,_⟩,h=>by cases h; subst h1; subst h2; simp [cj]
 | .ref _,_,_,_,_,h1,_,_=>h1.elim
 | .ext _,_,_,_,_,h1,_,_=>h1.elim
 | .tn,.ref _,_,_,_,_,h2,_=>h2.elim
 | .tn,.ext _,_,_,_,_,h2,_=>h2.elim
 | .tc _ _,.ref _,_,_,_,_,h2,_=>h2.elim
 | .tc _ _,.ext _,_,_,_,_,h2,_=>h2.elim
 | .non,.non,_,_,_,h1,h2,h=>cP hy h1 h2 h
 | .non,.bl _,_,_,_,h1,h2,h=>cP hy h1 h2 h
 | .non,.int _ _ _,_,_,_,h1,h2,h=>cP hy h1 h2 h
 | .non,.str _,_,_,_,h1,h2,h=>cP hy h1 h2 h
 | .non,.ref _,_,_,_,h1,h2,h=>cP hy h1 h2 h
 | .non,.ext _,_,_,_,h1,h2,h=>cP hy h1 h2 h
 | .bl _,.non,_,_,_,h1,h2,h=>cP hy h1 h2 h
 | .bl _,.bl _,_,_,_,h1,h2,h=>cP hy h1 h2 h
 | .bl _,.int _ _ _,_,_,_,h1,h2,h=>cP hy h1 h2 h
 | .bl _,.str _,_,_,_,h1,h2,h=>cP hy h1 h2 h
 | .bl _,.ref _,_,_,_,h1,h2,h=>cP hy h1 h2 h
 | .bl _,.ext _,_,_,_,h1,h2,h=>cP hy h1 h2 h
 | .int _ _ _,.non,_,_,_,h1,h2,h=>cP hy h1 h2 h
 | .int _ _ _,.bl _,_,_,_,h1,h2,h=>cP hy h1 h2 h
 | .int _ _ _,.int _ _ _,_,_,_,h1,h2,h=>cP hy h1 h2 h
 | .int _ _ _,.str _,_,_,_,h1,h2,h=>cP hy h1 h2 h
 | .int _ _ _,.ref _,_,_,_,h1,h2,h=>cP hy h1 h2 h
 | .int _ _ _,.ext _,_,_,_,h1,h2,h=>cP hy h1 h2 h
 | .str _,.non,_,_,_,h1,h2,h=>cP hy h1 h2 h
 | .str _,.bl _,_,_,_,h1,h2,h=>cP hy h1 h2 h
 | .str _,.int _ _ _,_,_,_,h1,h2,h=>cP hy h1 h2 h
 | .str _,.str _,_,_,_,h1,h2,h=>cP hy h1 h2 h
 | .str _,.ref _,_,_,_,h1,h2,h=>cP hy h1 h2 h
 | .str _,.ext _,_,_,_,h1,h2,h=>cP hy h1 h2 h
end
section
variable {g:Gx} {a b c e o:Expr} {ba bb bc:BE} {bt:BT} {br:BA}
def KA (S:aT) (a b:AV):Option Bool:=match lV a with
 | some _=>match lV b with
  | some _=>match qE a,qE b with
   | some n,some _=>match Nat.ble n 50 with
    | true=>Hu a b
    | false=>none
   | _,_=>none
  | none=>none
 | none=>match jl S a with
  | some xs=>match jl S b with
   | some ys=>match qE (chain xs),qE (chain ys) with
    | some n,some _=>match Nat.ble n 50 with
     | true=>Hu (chain xs) (chain ys)
     | false=>none
    | _,_=>none
   | none=>none
  | none=>none
theorem Hv {F:Fx} {S:aT} (C:aM g F y ρ S H) {ax az:AV} {x z:V} {c:Bool} (rx:aY F y ρ H ax x) (rz:aY F y ρ H az z) (h:KA S ax az = some c) :
  ∃ d e,cm H d x ∧ cm H e z ∧ tJ d = true ∧ tJ e = true ∧ nh d ≤ 50 ∧ cj d e = c:=by
 unfold KA at h
 split at h
 ·rename_i xs q1
  split at h
  ·rename_i zs q2
   split at h
   ·rename_i n m e1 e2
    split at h
    ·rename_i q3
     obtain ⟨d,d1,d2,d3⟩:=(Ae ax e1).1 x rx
     obtain ⟨e,f1,f2,f3⟩:=(Ae az e2).1 z rz
     have t1:∃ ds,d = .tup ds:=vR d2 (by rw [gK q1]; cases xs; exact .inl rfl; exact .inr ⟨_,_,rfl⟩)
     have t2:∃ ds,e = .tup ds:=vR f2 (by rw [gK q2]; cases zs; exact .inl rfl; exact .inr ⟨_,_,rfl⟩)
     obtain ⟨ds,rfl⟩:=t1
     obtain ⟨es,rfl⟩:=t2
     exact ⟨_,_,d1,f1,rfl,rfl,Nat.le_trans d3 (bO q3),za C.pos ax az d2 f2 h⟩
    ·cases h
   ·cases h
  ·cases h
 ·split at h
  ·rename_i xs q1
   split at h
   ·rename_i zs q2
    split at h
    ·rename_i n m e1 e2
     split at h
     ·rename_i q3
      obtain ⟨n1,a1,vs,rfl,rfl,_,ha,pr⟩:=c6 C rx q1
      obtain ⟨n2,a2,ws,rfl,rfl,_,hb,pr2⟩:=c6 C rz q2
      obtain ⟨ds,d1,d2,d3⟩:=(Ae _ e1).2 vs (nQ pr)
      obtain ⟨es,f1,f2,f3⟩:=(Ae _ e2).2 ws (nQ pr2)
      have k:=za C.pos _ _ d2 f2 h
      refine ⟨.lst ds,.lst es,cm.lst ha d1,cm.lst hb f1,rfl,rfl,?_,?_⟩
      ·rw [nh]; exact Nat.le_trans d3 (bO q3)
      ·simp only [cj] at k ⊢; exact k
     ·cases h
    ·cases h
   ·cases h
  ·cases h
def Af (neg:Bool):AV → AV → aT → (AV → aT → Bool) → Bool:=fun a b S k=>match KA S a b with
 | some c=>k (.bl (match neg with | true=>!c | false=>c)) S
 | none=>false
theorem nY {neg:Bool}:iN g (G7 neg) (Af neg):=by
 intro F y ρ S H x z ax az k Q C rx rz h p
 unfold Af at h
 split at h
 ·rename_i c q
  obtain ⟨d,e,h1,h2,h3,h4,h5,h6⟩:=Hv C rx rz q
  refine ⟨d,e,h1,h2,h3,h4,h5,?_⟩
  rw [h6]
  refine p.here C (av:=.bl _) ?_ h
  cases neg <;> rfl
 ·cases h
def Ag (f:AV → List AV → aT → (AV → aT → Bool) → Bool) (a:BE) (r:BA):BE:=fun σ S k=>a σ S fun x S1=>match jl S1 x with
 | some _=>r σ S1 fun xs S2=>f x xs S2 k
 | none=>false
def E1 (g:Gx) (r:V → List V → Hp → VK → Prop) (f:AV → List AV → aT → (AV → aT → Bool) → Bool):Prop :=
 ∀ F y ρ S H x xs ax axs k Q,aM g F y ρ S H → aY F y ρ H ax x → aX F y ρ H axs xs → f ax axs S k = true → jk g F y ρ H k Q → r x xs H Q
theorem Hw {r:V → List V → Hp → VK → Prop} {f} (hf:E1 g r f):∀ σ H Q,up g (Ag f ba br) σ H Q → Kl K "list" r (up g ba) (jM g br) σ H Q:=fun σ H Q ⟨F,y,ρ,S,σa,k,C,r,h,p⟩ =>
 ay C r h fun y1 ρ1 S1 H1 ax x st C1 r1 rx h1=>by
  cases q:jl S1 ax with
  | none=>simp only [q] at h1; cases h1
  | some ys =>
   simp only [q] at h1
   obtain ⟨n,a,vs,rfl,rfl,_,ha,pr⟩:=c6 C1 rx q
   refine ⟨.inl ⟨rfl,vs,fu.of ha⟩,bT C1 r1 h1 fun y2 ρ2 S2 H2 axs xs st2 C2 r2 rxs h2=>?_⟩
   exact hf F y2 ρ2 S2 H2 _ xs _ axs k Q C2 (aY.mono st2 rx) rxs h2 (p.mono (st.trans st2))
theorem iT {r:V → List V → Hp → VK → Prop} {f} (hf:E1 g r f) (h:PE X e (Kl K "list" r (up g ba) (jM g br))):PE X e (up g (Ag f ba br)):=PE.imp (Hw hf) h
def fm:AV → List AV → aT → (AV → aT → Bool) → Bool:=fun a xs S k=>match a,xs with
 | .ref n,[w]=>match jl S (.ref n) with
  | some ys=>match Nat.ble ys.length 900 with
   | true=>k .non (S.set n (.lst (ys ++ [w])))
   | false=>false
  | none=>false
 | _,_=>false
theorem du:E1 g oJ fm:=by
 intro F y ρ S H x xs ax axs k Q C rx rxs h p
 unfold fm at h
 split at h
 ·rename_i n w
  split at h
  ·rename_i ys q
   split at h
   ·rename_i q2
    obtain ⟨n',a,vs,e,rfl,hρ,ha,pr⟩:=c6 C rx q
    cases e
    cases rxs with | cons r0 t=>cases t with | nil =>
    rename_i z
    have hl:=aR pr
    have hl2:=bO q2
    show (match H a with
     | some (.lst xs)=>xs.length < sizeLine ∧ Q .non (upd H a (.lst (xs ++ [_])))
     | _=>False)
    rw [ha]
    have st:aD F y ρ H y ρ (upd H a (.lst (vs ++ [z]))):=aD.set C hρ ha
    refine ⟨ce (by omega),p y ρ _ _ .non _ st (C.set hρ ha (o:=.lst (ys ++ [w])) (ob:=⟨_,rfl,c3 (aX.mono st pr) (.cons (aY.mono st r0) .nil)⟩)) rfl h⟩
   ·cases h
  ·cases h
 ·cases h
def jd:AV → List AV → aT → (AV → aT → Bool) → Bool:=fun a xs S k=>match a,xs with
 | .ref n,[w]=>match jl S (.ref n) with
  | some ys=>match jl S w with
   | some zs=>match Nat.ble (ys.length + zs.length) 900 with
    | true=>k .non (S.set n (.lst (ys ++ zs)))
    | false=>false
   | none=>false
  | none=>false
 | _,_=>false
theorem hE:E1 g yC jd:=by
 intro F y ρ S H x xs ax axs k Q C rx rxs h p
 unfold jd at h
 split at h
 ·rename_i n w
  split at h
  ·rename_i ys q
   split at h
   ·rename_i zs q1
    split at h
    ·rename_i q2
     obtain ⟨n',a,vs,e,rfl,hρ,ha,pr⟩:=c6 C rx q
     cases e
     cases rxs with | cons r0 t=>cases t with | nil =>
     obtain ⟨m,b,ws,rfl,rfl,_,hb,pr2⟩:=c6 C r0 q1
     have hl:=aR pr
     have hl3:=aR pr2
     have hl2:=bO q2
     have st:aD F y ρ H y ρ (upd H a (.lst (vs ++ ws))):=aD.set C hρ ha
     exact ⟨a,b,vs,ws,rfl,rfl,ha,hb,Nat.le_of_lt (ce (by omega)),p y ρ _ _ .non _ st (C.set hρ ha (o:=.lst (ys ++ zs)) (ob:=⟨_,rfl,c3 (aX.mono st pr) (aX.mono st pr2)⟩)) rfl h⟩
    ·cases h
   ·cases h
  ·cases h
 ·cases h
end
section
variable {g:Gx} {a b c e o tg:Expr} {ba bb bc:BE} {bt:BT} {br:BA} {s1 s2:BS} {body:List Stmt}
abbrev Hx:=List AV → eD → aT → (eD → aT → Bool) → Bool
def Cv (g:Gx) (sl:List Nat) (b:Hx):Bf:=fun vs σ H Q=>∃ F y ρ S avs σa k,aM g F y ρ S H ∧ aX F y ρ H avs vs ∧ bE g F y ρ H σa σ ∧ b avs σa S k = true ∧ F5 g sl σ F y ρ H k Q
def cF:Hx:=fun xs σ S k=>match xs with
 | []=>k σ S
 | _=>false
def au (t:BG) (u:Hx):Hx:=fun xs σ S k=>match xs with
 | x :: r=>t x σ S fun σ1 S1=>u r σ1 S1 k
 | []=>false
def cA (n:Nat) (u:Hx):BG:=fun x σ S k=>match lV x with
 | some xs=>match Nat.beq xs.length n with
  | true=>u xs σ S k
  | false=>false
 | none=>false
theorem yj.imp {ts:List Expr} {t t':Bf} (h:∀ v σ H Q,t' v σ H Q → t v σ H Q) (p:yj X ts t):yj X ts t':=fun pins s σ H v u Q I r q=>p pins s σ H v u Q I r (h _ _ _ _ q)
theorem bo:yj X [] (Cv g [] cF):=yj.imp (fun vs σ H Q ⟨F,y,ρ,S,avs,σa,k,C,rv,r,h,p⟩=>by
 cases rv with
 | nil=>exact ⟨rfl,p y ρ S H _ _ .refl C r ⟨rfl,fun _ _=>rfl⟩ h⟩
 | cons _ _=>cases h) Ei
theorem ao {t:BG} {u:Hx} {sl sl':List Nat} (h1:PG X e (oP g sl t)) (h2:yj X es (Cv g sl' u)) (hs:(assignEach (e :: es) X.env).map (·.2) = assign e X.env :: (assignEach es X.env).map (·.2):=by with_unfolding_all rfl):yj X (e :: es) (Cv g (sl ++ sl') (au t u)) :=
 yj.imp (fun vs σ H Q ⟨F,y,ρ,S,avs,σa,k,C,rv,r,h,p⟩=>by
  cases rv with
  | nil=>cases h
  | cons r0 t0=>exact ⟨_,_,rfl,F,y,ρ,S,_,σa,_,C,r0,r,h,fun y1 ρ1 S1 H1 σ1 σ2 st C1 r1 o1 h1=>⟨F,y1,ρ1,S1,_,σ1,k,C1,aX.mono st t0,r1,h1,fun y2 ρ2 S2 H2 σ3 σ4 st2 C2 r2 o2 h2=>p y2 ρ2 S2 H2 σ3 σ4 (st.trans st2) C2 r2 ⟨o2.1.trans o1.1,fun j hj=>(o2.2 j fun m=>hj (List.mem_append_right _ m)).trans (o1.2 j fun m=>hj (List.mem_append_left _ m))⟩ h2⟩⟩) (Bg h1 h2 hs)
theorem b9 {u:Hx} {k n:Nat} (hc:X.calm = true) (h:yj X es (Cv g sl u)) (hn:(assignEach es X.env).length = n:=by with_unfolding_all rfl) (hst:(assignEach es X.env).findIdx? (·.1) = none:=by with_unfolding_all rfl):PG X (.Tuple es k pos) (oP g sl (cA n u)):=by
 refine PG.imp (fun v σ H Q ⟨F,y,ρ,S,av,σa,k,C,rv,r,h,p⟩=>?_) (EH (n:=n) hc h hn hst)
 unfold cA at h
 split at h
 ·rename_i xs q
  split at h
  ·rename_i q2
   obtain ⟨a,vs,rfl,ha,pr⟩:=f6 rv q
   show on (gC H (.ref a)) fun xs=>xs.length = n ∧ Cv g sl u xs σ H Q
   rw [gE ha,bW]
   exact ⟨by rw [← aR pr]; exact Nat.eq_of_beq_eq_true q2,F,y,ρ,S,xs,σa,k,C,pr,r,h,p⟩
  ·cases h
 ·cases h
theorem dQ {t:BG} (h:PS X (.Assign [tg] e pos) (ki (up g ba) (oP g sl t))):PS X (.Assign [tg] e pos) (dh g (aZ ba t)):=PS.imp ER h
def Jr (i j:Nat) (r:BA):BS:=fun d σ S=>r σ S fun xs S1=>match xs with
 | [v,w]=>d.nx (Cc (Cc σ i v) j w) S1
 | _=>false
theorem Hy {i j:Nat} (h:PS X st (IT i j (jM g br))):PS X st (dh g (Jr i j br)):=by
 refine PS.imp (fun D σ H ⟨F,y,ρ,S,σa,d,C,r,h,p,_⟩=>?_) h
 refine bT C r h fun y1 ρ1 S1 H1 axs xs st C1 r1 rx h1=>?_
 match axs,xs,rx,h1 with
 | [v,w],[v',w'],.cons r0 (.cons r2 .nil),h1=>exact ⟨v',w',rfl,p y1 ρ1 S1 H1 _ _ st C1 (dJ (dJ r1 r0) r2) h1⟩
def Cw (i:Nat) (f:AV → AV → aT → (AV → aT → Bool) → Bool) (a:BE):BS:=fun d σ S=>match JX σ i with
 | some x=>a σ S fun z S1=>f x z S1 fun w S2=>d.nx (Cc σ i w) S2
 | none=>false
theorem xx {i:Nat} {ti:IQ} {f} (hf:iN g ti f) (h:PS X st (IU i (up g ba) ti)):PS X st (dh g (Cw i f ba)):=by
 refine PS.imp (fun D σ H ⟨F,y,ρ,S,σa,d,C,r,h,p,_⟩=>?_) h
 unfold Cw at h
 split at h
 ·rename_i x q
  obtain ⟨v,e1,rv⟩:=vK r q
  refine ⟨v,e1,ay C r h fun y1 ρ1 S1 H1 az z st C1 r1 rz h1=>?_⟩
  refine hf F y1 ρ1 S1 H1 v z x az _ _ C1 (aY.mono st rv) rz h1 fun y2 ρ2 S2 H2 aw w st2 C2 rw' h2=>?_
  exact p y2 ρ2 S2 H2 _ _ (st.trans st2) C2 (dJ (bE.mono st2 r1) rw') h2
 ·cases h
theorem lW:iN g (KQ fun i j=>i + j) fk:=fun F y ρ S H x z ax az k Q C rx rz h p=>bX F y ρ S H x z ax az k Q C rx rz h p
def Gc (a b c:BE):BS:=fun d σ S=>c σ S fun v S1=>a σ S1 fun x S2=>b σ S2 fun z S3=>match x,z with
 | .ref n,.int false lo hi=>match eI lo hi && eI hi lo with
  | true=>match jl S3 (.ref n) with
   | some xs=>match lo with
    | .ofNat j=>match Nat.blt j xs.length with
     | true=>d.nx σ (S3.set n (.lst (xs.set j v)))
     | false=>false
    | .negSucc j=>match Nat.ble (j + 1) xs.length with
     | true=>d.nx σ (S3.set n (.lst (xs.set (xs.length - (j + 1)) v)))
     | false=>false
   | none=>false
  | false=>false
 | _,_=>false
theorem vS {F:Fx} {y:Option Int} {ρ:List Addr} {H:Hp} {av:AV} {v:V} (r:aY F y ρ H av v):∀ {xs:List AV} {vs:List V} (i:Nat),aX F y ρ H xs vs → aX F y ρ H (xs.set i av) (vs.set i v)
 | _,_,_,.nil=>.nil
 | _,_,0,.cons _ t=>.cons r t
 | _,_,i + 1,.cons q t=>.cons q (vS r i t)
theorem E2 {value:Expr} (h:PS X st (ki (up g bc) (IS (up g ba) (up g bb) Bx))):PS X st (dh g (Gc ba bb bc)):=by
 refine PS.imp (fun D σ H ⟨F,y,ρ,S,σa,d,C,r,h,p,_⟩=>?_) h
 refine ay C r h fun y1 ρ1 S1 H1 av v st C1 r1 rv h1=>ay C1 r1 h1 fun y2 ρ2 S2 H2 ax x st2 C2 r2 rx h2=>ay C2 r2 h2 fun y3 ρ3 S3 H3 az z st3 C3 r3 rz h3=>?_
 have rx3:=aY.mono st3 rx
 have rv3:=aY.mono (st2.trans st3) rv
 split at h3
 ·rename_i n lo hi
  split at h3
  ·rename_i q0
   simp only [Bool.and_eq_true,bK] at q0
   obtain ⟨i,rfl,b1,b2⟩:=rz
   have:i = lo:=by omega
   subst this
   split at h3
   ·rename_i xs q
    obtain ⟨n',a,vs,e,rfl,hρ,ha,pr⟩:=c6 C3 rx3 q
    cases e
    have hl:=aR pr
    have fin:∀ j:Nat,Bw vs.length i = some j → d.nx σa (S3.set n (.lst (xs.set j av))) = true → Bx (.ref a) (.int i) v H3 fun H'=>D.nx σ H':=fun j hj hn=>by
     have st4:aD F y3 ρ3 H3 y3 ρ3 (upd H3 a (.lst (vs.set j v))):=aD.set C3 hρ ha
     exact ⟨a,vs,i,j,rfl,rfl,ha,hj,p y3 ρ3 _ _ σa σ (((st.trans st2).trans st3).trans st4) (C3.set hρ ha (o:=.lst (xs.set j av)) (ob:=⟨_,rfl,vS (aY.mono st4 rv3) j (aX.mono st4 pr)⟩)) (bE.mono st4 r3) hn⟩
    split at h3
    ·rename_i j
     split at h3
     ·rename_i q2
      have q2:j + 1 ≤ xs.length:=bO q2
      refine fin j ?_ h3
      unfold Bw
      rw [if_pos (by show (0:Int) ≤ (j:Int); omega),if_pos (by show (j:Int) < _; omega)]
      simp
     ·cases h3
    ·rename_i j
     split at h3
     ·rename_i q2
      have q2:=bO q2
      refine fin _ ?_ h3
      unfold Bw
      rw [if_neg (by omega),if_pos (by omega)]
      congr 1
      omega
     ·cases h3
   ·cases h3
  ·cases h3
 ·cases h3
def gi (fuel:Nat) (t:BT) (s:BS):BS:=fun d=>Nat.rec (motive:=fun _=>eD → aT → Bool) (fun _ _=>false) (fun _ ih σ S=>t σ S fun c S1=>match c with
 | true=>s ⟨ih,d.rt,d.nx,ih⟩ σ S1
 | false=>d.nx σ S1) fuel
theorem Ah {fuel:Nat}:∀ D σ H,dh g (gi fuel bt s1) D σ H → Bh (fw g bt) (dh g s1) D σ H:=by
 rintro D σ H ⟨F,y,ρ,S,σa,d,C,r,h,p,pr,pb,pc⟩
 refine ⟨fun m σ' H'=>∃ y' ρ' S' σa',aD F y ρ H y' ρ' H' ∧ aM g F y' ρ' S' H' ∧ bE g F y' ρ' H' σa' σ' ∧ gi m bt s1 d σa' S' = true,⟨fuel,y,ρ,S,σa,.refl,C,r,h⟩,?_⟩
 rintro m σ1 H1 ⟨y1,ρ1,S1,σa1,st1,C1,r1,h1⟩
 cases m with
 | zero=>cases h1
 | succ m =>
  refine eN C1 r1 (show bt σa1 S1 (fun c S1=>match c with
   | true=>s1 ⟨gi m bt s1 d,d.rt,d.nx,gi m bt s1 d⟩ σa1 S1
   | false=>d.nx σa1 S1) = true from h1) fun y2 ρ2 S2 H2 c st2 C2 r2 h2=>?_
  cases c with
  | true =>
   refine qx ⟨fun σ' H'=>∃ y' ρ' S' σa',aD F y ρ H y' ρ' H' ∧ aM g F y' ρ' S' H' ∧ bE g F y' ρ' H' σa' σ' ∧ gi m bt s1 d σa' S' = true,fun σ' H' q=>⟨m,Nat.lt_succ_self m,q⟩,?_⟩
   have st:=st1.trans st2
   exact ⟨F,y2,ρ2,S2,σa1,_,C2,r2,h2,fun y3 ρ3 S3 H3 σ3 σ4 st3 C3 r3 h3=>⟨y3,ρ3,S3,σ3,st.trans st3,C3,r3,h3⟩,pr.mono st,p.mono st,fun y3 ρ3 S3 H3 σ3 σ4 st3 C3 r3 h3=>⟨y3,ρ3,S3,σ3,st.trans st3,C3,r3,h3⟩⟩
  | false=>exact qw (p y2 ρ2 S2 H2 σa1 σ1 (st1.trans st2) C2 r2 h2)
theorem kW (fuel:Nat) (hp:PassesOwn (model X.prog X.w) X.A X.env X.xe) (hc:PT X c (fw g bt)) (hb:iz X body (dh g s1)):PS X (.While c body [] pos) (dh g (gi fuel bt s1)):=PS.imp Ah (Bi hp hc hb)
inductive xy where
 | tup (xs:List AV)
 | lst (n:Nat)
 | rng (lo:Int) (n:Nat)
 | dit (n:Nat)
 | dks (n:Nat)
def xz (S:aT) (n:Nat):Option (List (AV × AV)):=match S.t.get n with
 | some (.fz (.dk kvs))=>some kvs
 | some (.fz (.dt kvs))=>some kvs
 | _=>none
def xy.nxt:xy → Nat → aT → Option (Option AV)
 | .tup xs,i,_=>some xs[i]?
 | .lst n,i,S=>match S.t.get n with
  | some (.lst xs)=>some xs[i]?
  | _=>none
 | .rng lo n,i,_=>match Nat.blt i n with
  | true=>some (some (.int false (lo + .ofNat i) (lo + .ofNat i)))
  | false=>some none
 | .dit n,i,S=>match xz S n with
  | some kvs=>match kvs[i]? with
   | some (k,v)=>some (some (.tc k (.tc v .tn)))
   | none=>some none
  | none=>none
 | .dks n,i,S=>match xz S n with
  | some kvs=>match kvs[i]? with
   | some (k,_)=>some (some k)
   | none=>some none
  | none=>none
abbrev BI:=eD → aT → (xy → aT → Bool) → Bool
structure mJ (g:Gx) (F:Fx) (y:Option Int) (ρ:List Addr) (H:Hp) (src:xy) (J:It):Prop where
 turn:∀ y1 ρ1 S1 H1 i,aD F y ρ H y1 ρ1 H1 → aM g F y1 ρ1 S1 H1 → (∀ av,src.nxt i S1 = some (some av) → J.go i H1 ∧ ∀ x H',J.yld i H1 x H' → aD F y1 ρ1 H1 y1 ρ1 H' ∧ aM g F y1 ρ1 S1 H' ∧ aY F y1 ρ1 H' av x) ∧ (src.nxt i S1 = some none → J.stop i H1)
def Cy (g:Gx) (b:BI):TI:=fun σ H R=>∃ F y ρ S σa k,aM g F y ρ S H ∧ bE g F y ρ H σa σ ∧ b σa S k = true ∧ ∀ y1 ρ1 S1 H1 src J,aD F y ρ H y1 ρ1 H1 → aM g F y1 ρ1 S1 H1 → mJ g F y1 ρ1 H1 src J → k src S1 = true → R J H1
theorem PI.imp {iter:Expr} {t t':TI} (h:∀ σ H R,t' σ H R → t σ H R) (p:PI X tg iter t):PI X tg iter t':=fun pins s σ H R I q=>p pins s σ H R I (h _ _ _ q)
def no (fuel:Nat) (it:BI) (t:BG) (s:BS):BS:=fun d σ S=>it σ S fun src S1=>Nat.rec (motive:=fun _=>Nat → eD → aT → Bool) (fun _ _ _=>false) (fun _ ih i σ S=>match src.nxt i S with
 | some (some x)=>t x σ S fun σ2 S2=>s ⟨ih (i + 1),d.rt,d.nx,ih (i + 1)⟩ σ2 S2
 | some none=>d.nx σ S
 | none=>false) fuel 0 σ S1
def Ai (t:BG) (s:BS) (d:Ds) (src:xy) (fuel:Nat):Nat → eD → aT → Bool:=Nat.rec (motive:=fun _=>Nat → eD → aT → Bool) (fun _ _ _=>false) (fun _ ih i σ S=>match src.nxt i S with
 | some (some x)=>t x σ S fun σ2 S2=>s ⟨ih (i + 1),d.rt,d.nx,ih (i + 1)⟩ σ2 S2
 | some none=>d.nx σ S
 | none=>false) fuel
theorem vT {F:Fx} {y1:Option Int} {ρ1:List Addr} {S1:aT} {H1:Hp} {fuel:Nat} {t:BG} {src:xy} {J:It} {d:Ds} {D:vg} {σ:L2.St} {σa:eD} (C1:aM g F y1 ρ1 S1 H1) (r1:bE g F y1 ρ1 H1 σa σ) (so:mJ g F y1 ρ1 H1 src J) (h1:Ai t s1 d src fuel 0 σa S1 = true)
  (p:kR g F y1 ρ1 H1 d.nx D.nx) (pr:jk g F y1 ρ1 H1 d.rt D.rt):∃ W:Nat → Nat → L2.St → Hp → Prop,(∃ m,W 0 m σ H1) ∧ ∀ i m σ H,W i m σ H →
 (J.stop i H ∧ D.nx σ H) ∨ (J.go i H ∧ ∃ N:L2.St → Hp → Prop,(∀ σ' H',N σ' H' → ∃ m',m' < m ∧ W (i + 1) m' σ' H') ∧ ∀ x H',J.yld i H x H' → oP g sl t x σ H' fun σ2 H2=>dh g s1 { D with nx:=N,ct:=N,bk:=D.nx } σ2 H2):=by
 refine ⟨fun i m σ' H'=>∃ y' ρ' S' σa',aD F y1 ρ1 H1 y' ρ' H' ∧ aM g F y' ρ' S' H' ∧ bE g F y' ρ' H' σa' σ' ∧ Ai t s1 d src m i σa' S' = true,⟨fuel,y1,ρ1,S1,σa,.refl,C1,r1,h1⟩,?_⟩
 rintro i m σ2 H2 ⟨y2,ρ2,S2,σa2,st2,C2,r2,h2⟩
 obtain ⟨t1,t2⟩:=so.turn y2 ρ2 S2 H2 i st2 C2
 cases m with
 | zero=>cases h2
 | succ m =>
  have h2:(match src.nxt i S2 with
   | some (some x)=>t x σa2 S2 fun σ2 S2=>s1 ⟨Ai t s1 d src m (i + 1),d.rt,d.nx,Ai t s1 d src m (i + 1)⟩ σ2 S2
   | some none=>d.nx σa2 S2
   | none=>false) = true:=h2
  cases q:src.nxt i S2 with
  | none=>rw [q] at h2; cases h2
  | some ox=>cases ox with
   | none =>
    rw [q] at h2
    exact .inl ⟨t2 q,p y2 ρ2 S2 H2 σa2 σ2 st2 C2 r2 h2⟩
   | some ax =>
    rw [q] at h2
    obtain ⟨go,yl⟩:=t1 ax q
    refine .inr ⟨go,fun σ' H'=>∃ y' ρ' S' σa',aD F y1 ρ1 H1 y' ρ' H' ∧ aM g F y' ρ' S' H' ∧ bE g F y' ρ' H' σa' σ' ∧ Ai t s1 d src m (i + 1) σa' S' = true,fun σ' H' q=>⟨m,Nat.lt_succ_self m,q⟩,fun x H3 yx=>?_⟩
    obtain ⟨st3,C3,rx⟩:=yl x H3 yx
    refine ⟨F,y2,ρ2,S2,ax,σa2,_,C3,rx,bE.mono st3 r2,h2,fun y4 ρ4 S4 H4 σ4 σ5 st4 C4 r4 _ h4=>?_⟩
    have stb:=(st2.trans st3).trans st4
    exact ⟨F,y4,ρ4,S4,σ4,_,C4,r4,h4,fun y5 ρ5 S5 H5 σ6 σ7 st5 C5 r5 h5=>⟨y5,ρ5,S5,σ6,stb.trans st5,C5,r5,h5⟩,pr.mono stb,p.mono stb,fun y5 ρ5 S5 H5 σ6 σ7 st5 C5 r5 h5=>⟨y5,ρ5,S5,σ6,stb.trans st5,C5,r5,h5⟩⟩
theorem E3 {fuel:Nat} {it:BI} {t:BG}:∀ D σ H,dh g (no fuel it t s1) D σ H → IW (Cy g it) (oP g sl t) (dh g s1) D σ H:=by
 rintro D σ H ⟨F,y,ρ,S,σa,d,C,r,h,p,pr,pb,pc⟩
 exact ⟨F,y,ρ,S,σa,_,C,r,h,fun y1 ρ1 S1 H1 src J st C1 so h1=>vT C1 (bE.mono st r) so h1 (p.mono st) (pr.mono st)⟩
theorem gj (fuel:Nat) {iter:Expr} {it:BI} {t:BG} (hp:PassesOwn (model X.prog X.w) X.A X.env X.xe) (hc:X.calm = true) (hi:PI X tg iter (Cy g it)) (hg:PG X tg (oP g sl t)) (hb:iz X body (dh g s1))
  (hs:∀ x,foldedSetIterable iter X.env x = pure x:=by with_unfolding_all (intro _; rfl)):PS X (.For tg iter body [] pos) (dh g (no fuel it t s1)):=PS.imp E3 (Bk hp hc hi hg hb hs)
def fJ (a:BE):BI:=fun σ S k=>a σ S fun x S1=>match lV x with
 | some xs=>k (.tup xs) S1
 | none=>false
def jt (a:BE):BI:=fun σ S k=>a σ S fun x S1=>match x with
 | .ref n=>match S1.t.get n with
  | some (.lst _)=>k (.lst n) S1
  | _=>false
 | _=>false
def oT (a:BA):BI:=fun σ S k=>a σ S fun xs S1=>match xs with
 | [.int false lo hi]=>match eI lo hi && eI hi lo && eI (-1000) lo && eI lo 1000 with
  | true=>k (.rng 0 lo.toNat) S1
  | false=>false
 | _=>false
theorem dR (h:PI X tg a (IV X.K (up g ba))):PI X tg a (Cy g (fJ ba)):=by
 refine PI.imp (fun σ H R ⟨F,y,ρ,S,σa,k,C,r,h,p⟩=>?_) h
 refine ay C r h fun y1 ρ1 S1 H1 ax x st C1 r1 rx h1=>?_
 cases q:lV ax with
 | none=>simp only [q] at h1; cases h1
 | some xs =>
  simp only [q] at h1
  obtain ⟨a,vs,rfl,ha,pr⟩:=f6 rx q
  refine ⟨a,rfl,⟨vs,fh.of ha⟩,p y1 ρ1 S1 H1 (.tup xs) _ st C1 ⟨fun y2 ρ2 S2 H2 i st2 C2=>?_⟩ h1⟩
  have hq:fh X.K H2 a vs:=fh.of (st2.tup _ _ ha)
  have pr2:=aX.mono st2 pr
  refine ⟨fun av e=>?_,fun e=>?_⟩
  ·have e:xs[i]? = some av:=Option.some.inj e
   obtain ⟨v,h3,h4⟩:=dO pr2 e
   refine ⟨⟨vs,v,hq,h3⟩,fun z H' yz=>?_⟩
   obtain ⟨rfl,yz⟩:=yz
   have:=yz vs hq
   rw [h3] at this; cases this
   exact ⟨.refl,C2,h4⟩
  ·have e:xs[i]? = none:=Option.some.inj e
   have:=List.getElem?_eq_none_iff.mp e
   exact ⟨vs,hq,by rw [← aR pr]; exact this⟩
theorem hJ (h:PI X tg a (FO X.K (up g ba))):PI X tg a (Cy g (jt ba)):=by
 refine PI.imp (fun σ H R ⟨F,y,ρ,S,σa,k,C,r,h,p⟩=>?_) h
 refine ay C r h fun y1 ρ1 S1 H1 ax x st C1 r1 rx h1=>?_
 cases ax with
 | ref n =>
  dsimp only at h1
  cases q:S1.t.get n with
  | none=>rw [q] at h1; cases h1
  | some ob=>rw [q] at h1; cases ob with
   | lst xs =>
    obtain ⟨a,vs,rfl,hρ,ha,pr⟩:=C1.lst rx q
    refine ⟨a,rfl,⟨vs,fu.of ha⟩,p y1 ρ1 S1 H1 (.lst n) _ st C1 ⟨fun y2 ρ2 S2 H2 i st2 C2=>?_⟩ h1⟩
    have rx2:aY F y2 ρ2 H2 (.ref n) (.ref a):=aY.mono st2 rx
    unfold xy.nxt
    dsimp only
    cases q2:S2.t.get n with
    | none=>exact ⟨fun _ e=>(nomatch e),fun e=>(nomatch e)⟩
    | some ob2=>cases ob2 with
     | lst xs2 =>
      obtain ⟨a2,vs2,e2,_,ha2,pr2⟩:=C2.lst rx2 q2
      cases e2
      have hq:fu X.K H2 a vs2:=fu.of ha2
      refine ⟨fun av e=>?_,fun e=>?_⟩
      ·have e:xs2[i]? = some av:=Option.some.inj e
       obtain ⟨v,h3,h4⟩:=dO pr2 e
       refine ⟨⟨vs2,v,hq,h3⟩,fun z H' yz=>?_⟩
       obtain ⟨rfl,yz⟩:=yz
       have:=yz vs2 hq
       rw [h3] at this; cases this
       exact ⟨.refl,C2,h4⟩
      ·have e:xs2[i]? = none:=Option.some.inj e
       have:=List.getElem?_eq_none_iff.mp e
       exact ⟨vs2,hq,by rw [← aR pr2]; exact this⟩
     | _=>exact ⟨fun _ e=>(nomatch e),fun e=>(nomatch e)⟩
   | _=>cases h1
 | _=>cases h1
theorem Js {F:Fx} {lo:Int} {n:Nat}:mJ g F y ρ H (.rng lo n) (JS lo n):=by
 refine ⟨fun y2 ρ2 S2 H2 i st2 C2=>?_⟩
 unfold xy.nxt
 dsimp only
 cases q:Nat.blt i n with
 | true =>
  have hi:i + 1 ≤ n:=bO q
  refine ⟨fun av e=>⟨hi,fun x H' yx=>?_⟩,fun e=>(nomatch e)⟩
  obtain ⟨rfl,rfl⟩:=yx
  cases e
  exact ⟨.refl,C2,_,rfl,Int.le_refl _,Int.le_refl _⟩
 | false =>
  refine ⟨fun av e=>(nomatch e),fun _=>?_⟩
  show n ≤ i
  have:¬ i < n:=fun h=>by
   have:Nat.blt i n = true:=Nat.ble_eq_true_of_le h
   rw [q] at this; cases this
  omega
theorem nZ (h:PI X tg a (FP (jM g br))):PI X tg a (Cy g (oT br)):=by
 refine PI.imp (fun σ H R ⟨F,y,ρ,S,σa,k,C,r,h,p⟩=>?_) h
 refine bT C r h fun y1 ρ1 S1 H1 axs xs st C1 r1 rx h1=>?_
 split at h1
 ·rename_i lo hi
  split at h1
  ·rename_i q
   simp only [Bool.and_eq_true,bK] at q
   cases rx with | cons r0 t0=>cases t0 with | nil =>
   obtain ⟨z,rfl,b1,b2⟩:=r0
   have:z = lo:=by omega
   subst this
   exact ⟨z,rfl,by omega,by omega,p y1 ρ1 S1 H1 (.rng 0 z.toNat) _ st C1 Js h1⟩
  ·cases h1
 ·cases h1
def JZ (σ:List (Option AV)):List (Option Nat) → List (Option AV)
 | []=>[]
 | some j :: r=>Cb σ j :: JZ σ r
 | none :: r=>none :: JZ σ r
def vb (ix:List (Option Nat)) (σ:eD):eD:=⟨JZ σ.v ix,σ.ke⟩
theorem xA {F:Fx} {y:Option Int} {ρ:List Addr} {H:Hp} {σa:List (Option AV)} {σ:St} (r:ij F y ρ H σa σ):∀ ix:List (Option Nat),ij F y ρ H (JZ σa ix) (gS ix σ)
 | []=>.nil
 | none :: ix=>.cons trivial (xA r ix)
 | some j :: ix=>by
  refine .cons ?_ (xA r ix)
  cases q:Cb σa j with
  | none=>trivial
  | some av =>
   obtain ⟨v,e,rv⟩:=oQ r q
   show eV F y ρ H (some av) (σ[j]?.join)
   rw [e]; exact rv
theorem Cz {F:Fx} {σa:eD} (r:bE g F y ρ H σa σ) (ix:List (Option Nat)):bE g F y ρ H (vb ix σa) (gS ix σ):=⟨xA r.v ix,r.e⟩
def Hz (σ:eD) (t:BG) (tt:BT) (te:BE) (k:AV → aT → Bool) (src:xy) (fuel:Nat):Nat → List AV → aT → Bool:=Nat.rec (motive:=fun _=>Nat → List AV → aT → Bool) (fun _ _ _=>false) (fun _ ih i ys S=>match Nat.ble ys.length 900 with
 | false=>false
 | true=>match src.nxt i S with
  | some none=>k (.ref S.n) (S.add (.lst ys))
  | some (some x)=>t x σ S fun σ2 S2=>tt σ2 S2 fun c S3=>match c with
   | true=>te σ2 S3 fun z S4=>ih (i + 1) (ys ++ [z]) S4
   | false=>ih (i + 1) ys S3
  | none=>false) fuel
def vU (fuel:Nat) (ix:List (Option Nat)) (it:BI) (t:BG) (tt:BT) (te:BE):BE:=fun σ S k=>it σ S fun src S1=>Hz (vb ix σ) t tt te k src fuel 0 [] S1
def kX:BT:=fun _ S k=>k true S
theorem zc {F:Fx} {y1:Option Int} {ρ1:List Addr} {S1:aT} {H1:Hp} {fuel:Nat} {t:BG} {tt:BT} {te:BE} {src:xy} {J:It} {k:AV → aT → Bool} {Q:VK} {σ:L2.St} {σa:eD} (hsl:∀ j ∈ sl,ix[j]? = some none) (C1:aM g F y1 ρ1 S1 H1) (r1:bE g F y1 ρ1 H1 σa σ) (so:mJ g F y1 ρ1 H1 src J)
  (h1:Hz (vb ix σa) t tt te k src fuel 0 [] S1 = true) (p:jk g F y1 ρ1 H1 k Q):∃ W:Nat → Nat → List V → Hp → Prop,(∃ m,W 0 m [] H1) ∧ ∀ i m ys H,W i m ys H → ys.length < sizeLine ∧
 ((J.stop i H ∧ ∀ p,H p = none → Q (.ref p) (upd H p (.lst ys))) ∨ (J.go i H ∧ ∀ x H',J.yld i H x H' → oP g sl t x (gS ix σ) H' fun σ2 H2=>L2.xh (gS ix σ) σ2 ∧ fw g tt σ2 H2 fun b H3 =>
  if b = true then up g te σ2 H3 fun y H4=>∃ m',m' < m ∧ W (i + 1) m' (ys ++ [y]) H4 else ∃ m',m' < m ∧ W (i + 1) m' ys H3)):=by
 refine ⟨fun i m ys H'=>∃ y' ρ' S' ays,aD F y1 ρ1 H1 y' ρ' H' ∧ aM g F y' ρ' S' H' ∧ aX F y' ρ' H' ays ys ∧ Hz (vb ix σa) t tt te k src m i ays S' = true,⟨fuel,y1,ρ1,S1,[],.refl,C1,.nil,h1⟩,?_⟩
 rintro i m ys H2 ⟨y2,ρ2,S2,ays,st2,C2,r2,h2⟩
 obtain ⟨t1,t2⟩:=so.turn y2 ρ2 S2 H2 i st2 C2
 cases m with
 | zero=>cases h2
 | succ m =>
  have h2:(match Nat.ble ays.length 900 with
   | false=>false
   | true=>match src.nxt i S2 with
    | some none=>k (.ref S2.n) (S2.add (.lst ays))
    | some (some x)=>t x (vb ix σa) S2 fun σ2 S2=>tt σ2 S2 fun c S3=>match c with
     | true=>te σ2 S3 fun z S4=>Hz (vb ix σa) t tt te k src m (i + 1) (ays ++ [z]) S4
     | false=>Hz (vb ix σa) t tt te k src m (i + 1) ays S3
    | none=>false) = true:=h2
  cases q0:Nat.ble ays.length 900 with
  | false=>rw [q0] at h2; cases h2
  | true =>
   rw [q0] at h2
   have hl:=aR r2
   have hl2:=bO q0
   refine ⟨ce (by omega),?_⟩
   dsimp only at h2
   cases q:src.nxt i S2 with
   | none=>rw [q] at h2; cases h2
   | some ox=>cases ox with
    | none =>
     rw [q] at h2
     refine .inl ⟨t2 q,fun pl hp=>?_⟩
     have st3:aD F y2 ρ2 H2 y2 (ρ2 ++ [pl]) (upd H2 pl (.lst ys)):=aD.add hp
     exact p y2 _ _ _ (.ref S2.n) _ (st2.trans st3) (C2.add (o:=.lst ays) hp ⟨ys,rfl,aX.mono st3 r2⟩) ⟨pl,by rw [C2.n]; simp,rfl⟩ h2
    | some ax =>
     rw [q] at h2
     obtain ⟨go,yl⟩:=t1 ax q
     refine .inr ⟨go,fun x H3 yx=>?_⟩
     obtain ⟨st3,C3,rx⟩:=yl x H3 yx
     have rl:bE g F y2 ρ2 H3 (vb ix σa) (gS ix σ):=Cz (bE.mono (st2.trans st3) r1) ix
     refine ⟨F,y2,ρ2,S2,ax,_,_,C3,rx,rl,h2,fun y4 ρ4 S4 H4 σ4 σ5 st4 C4 r4 o4 h4=>⟨⟨o4.1.symm,fun j v e=>?_⟩,?_⟩⟩
     ·rw [o4.2 j fun m=>?_]
      ·exact e
      ·have z:=hsl j m
       unfold gS at e
       rw [List.getElem?_map,z] at e
       cases e
     ·refine eN C4 r4 h4 fun y5 ρ5 S5 H5 c st5 C5 r5 h5=>?_
      have stc:=((st2.trans st3).trans st4).trans st5
      have r25:=aX.mono ((st3.trans st4).trans st5) r2
      cases c with
      | false=>exact qw ⟨m,Nat.lt_succ_self m,y5,ρ5,S5,ays,stc,C5,r25,h5⟩
      | true =>
       refine qx (ay C5 r5 h5 fun y6 ρ6 S6 H6 az z st6 C6 r6 rz h6=>?_)
       exact ⟨m,Nat.lt_succ_self m,y6,ρ6,S6,ays ++ [az],stc.trans st6,C6,c3 (aX.mono st6 r25) (.cons rz .nil),h6⟩
theorem CC {fuel:Nat} {it:BI} {t:BG} {tt:BT} {te:BE} (hsl:∀ j ∈ sl,ix[j]? = some none):∀ σ H Q,up g (vU fuel ix it t tt te) σ H Q → G5 ix (Cy g it) (oP g sl t) (fw g tt) (up g te) σ H Q:=by
 rintro σ H Q ⟨F,y,ρ,S,σa,k,C,r,h,p⟩
 exact ⟨F,y,ρ,S,σa,_,C,r,h,fun y1 ρ1 S1 H1 src J st C1 so h1=>zc hsl C1 (bE.mono st r) so h1 (p.mono st)⟩
theorem cB:nc X [] (fw g kX):=fun pins s σ H Q I ⟨F,y,ρ,S,σa,k,C,r,h,p⟩=>BN pins s σ H Q I (p.here C h)
theorem gM {c:Expr} (h:PT X c (fw g bt)):nc X [c] (fw g bt):=BO h
theorem gN (fuel:Nat) {it:BI} {t:BG} {tt:BT} {te:BE} (hsl:∀ j ∈ sl,ix[j]? = some none) (h:PE X e (G5 ix (Cy g it) (oP g sl t) (fw g tt) (up g te))):PE X e (up g (vU fuel ix it t tt te)):=PE.imp (CC hsl) h
theorem CD (fuel:Nat) (i:Nat) {it:BI} {t:BG} {tt:BT} {te:BE} (hsl:∀ j ∈ sl,ix[j]? = some none) (h:PS X st (ki (G5 ix (Cy g it) (oP g sl t) (fw g tt) (up g te)) (ig i))):PS X st (dh g (aZ (vU fuel ix it t tt te) (ah i))) :=
 PS.imp (fun D σ H ⟨F,y,ρ,S,σa,d,C,r,h,p,_⟩=>CC (fuel:=fuel) hsl σ H _ (ay C r h fun y1 ρ1 S1 H1 ax x st C1 r1 rx h1=>p y1 ρ1 S1 H1 _ _ st C1 (dJ r1 rx) h1)) h
end
end RB
variable {F:RB.Fx} {gy:RB.Gy} {g:RB.Gx}
namespace RB
open PySem PySem.Spec PyProof.Rows L2
def vV:Nat → List (Option AV)
 | 0=>[]
 | n + 1=>none :: vV n
def lX:Nat → List AV → List (Option AV)
 | n,[]=>vV n
 | n,a :: r=>some a :: lX (n - 1) r
def cq (n:Nat) (b:BS):BF:=fun avs S k ke=>b ⟨fun _ S1=>k .non S1,k,fun _ _=>false,fun _ _=>false⟩ ⟨lX n avs,ke⟩ S
section
theorem lY:∀ n:Nat,ij F y ρ H (vV n) (List.replicate n none)
 | 0=>.nil
 | n + 1=>.cons trivial (lY n)
theorem vW:∀ {n:Nat} {avs:List AV} {vs:List V},aX F y ρ H avs vs → vs.length ≤ n → ij F y ρ H (lX n avs) (vs.map some ++ List.replicate (n - vs.length) none)
 | n,_,_,.nil,_=>by simpa [lX] using lY n
 | n,_,_,.cons (l₂:=t2) r t,h=>by
  simp at h
  have:=vW (n:=n - 1) t (by omega)
  unfold lX
  refine .cons r ?_
  have e:n - (t2.length + 1) = n - 1 - t2.length:=by omega
  simp only [List.length_cons,e]
  exact this
end
section
theorem xB {n:Nat} {N ps:List Str} {b:BS} {CX:tz} {A:Around} {outer:List Env} {s:Shared} {Q:VK} {E:XK} {body:List Stmt} (hN:ps.length ≤ N.length) (hps:ps.length = n)
  (h:r8 gy n (cq N.length b) vs H Q E) (hb:iz X body (dh ⟨gy,E⟩ b)):∃ t,iz X body t ∧ t { nx:=fun _ H'=>Q .non H',rt:=Q } (ii N vs) H:=by
 obtain ⟨F,y,ρ,S,avs,k,ke,C,r,hl,h,p,pe⟩:=h
 refine ⟨_,hb,F,y,ρ,S,⟨lX N.length avs,ke⟩,_,C,⟨vW r (by omega),pe⟩,h,?_,p,?_,?_⟩
 ·intro y1 ρ1 S1 H1 σ1 σ2 st C1 r1 h1
  exact p y1 ρ1 S1 H1 .non _ st C1 rfl h1
 ·intro y1 ρ1 S1 H1 σ1 σ2 st C1 r1 h1; cases h1
 ·intro y1 ρ1 S1 H1 σ1 σ2 st C1 r1 h1; cases h1
def vX (P:Program) (w:World) (K:PySem.W.Frag) (mg:Str → Option Value) (base:Heap) (gy:Gy) (CX:tz) (x:Str) (k n:Nat) (f:BF):Prop :=
 ∃ fa fd ps,ps.length = n ∧ db P w K mg base CX k fa fd ps (r8 gy n f) ∧ mg x = some (.ref fa) ∧ PySem.W.keepIn K (.ref fa) = true ∧ dH K fd ps []
theorem HA {x:Str} {N ps:List Str} {k n:Nat} {b:BS} (d:cY K mg x st) (S:al N ps (ag st)) (hn:ps.length = n:=by decide) (hN:ps.length ≤ N.length:=by decide)
  (hb:∀ (kV doc pm:Value) (an:Option Addr) (cdv ct:Value) (us:List Value),us.length = ps.length → bindArgs (PySem.W.fnOf x x (bV st) (bd st) (ag st) .none kV doc pm an cdv ct) ⟨us,[]⟩ = pure (ps.zip us))
  (hbody:∀ (f:Addr) (cdv:Value) (A:Around) (outer:List Env) (s:Shared) (H:Hp) (E:XK),bQ k (A.deeper (envOfC x (ag st) s.heap.objs.size f cdv)) → iz (m8 fT P w K mg base N x (ag st) f cdv A outer s H E).nox (bd st) (dh ⟨gy,E⟩ b)) :
  vX P w K mg base gy fT x (k + 1) n (cq N.length b):=by
 obtain ⟨f,fd,F,hm⟩:=d
 refine ⟨f,fd,ps,hn,F.ok S (fun vs H Q E h=>?_) (fun cdv A outer s H vs Q E hr h=>?_),hm,F.kp,F.binds hb⟩
 ·obtain ⟨_,_,_,_,_,_,_,_,_,hl,_⟩:=h
  rw [hl,hn]
 ·exact xB (CX:=fT) (A:=A) (outer:=outer) (s:=s) hN hn h (hbody f cdv A outer s H E hr)
end
section
variable {CX:tz} {a b c e o:Expr} {ba bb bc:BE} {bt:BT} {br bk:BA} {s1 s2:BS} {pos apos:Pos} {x m:Str} {p:Pos} {k n:Nat} {f:BF}
theorem fb:cW fT X g.E:=fun _ _ _ _ _ _ _ h=>h.elim
theorem HB (c:vX X.prog X.w X.K X.mg X.base g.toGy CX x k n f) (hr:bQ k X.A) (hx:cW CX X g.E) (ha:PA X (e :: es) (jM g br)) (hg:Gl X x:=by with_unfolding_all rfl) (hdb:(x == ("__debug__":Str)) = false:=by decide)
  (he:starEach (e :: es) X.env = (false,eval e X.env) :: starEach es X.env:=by with_unfolding_all rfl) (hpl:(backTo pos (starEach es X.env)).any (·.1) = false:=by with_unfolding_all rfl):PE X (.Call (.Name x p) (e :: es) [] pos) (up g (aB (bJ n f) br)):=by
 obtain ⟨fa,fd,ps,hn,F,hm,hk,hb⟩:=c
 exact PE.imp Cg (yp F hr hg hm hk hb .nil hx ha hdb he hpl)
def CG (P:Program) (w:World) (K:PySem.W.Frag) (mg:Str → Option Value) (base:Heap) (gy:Gy) (CX:tz) (c:Nat) (m:Str) (k n:Nat) (dA:List AV) (f:BF):Prop :=
 ∃ fa fd ps ds dvs,ps.length = n ∧ db P w K mg base CX k fa fd ps (r8 gy n f) ∧ vn K (gy.cl c) m fa ∧ dH K fd ps ds ∧ aN dvs ds ∧ ∀ F y ρ H,aX F y ρ H dA dvs
theorem jR {F:Fx} {y:Option Int} {ρ:List Addr} {H:Hp} {m:Str} (hm:∀ i ∈ lR,bf[i]? ≠ some m):∀ {fs:List (Nat × AV)} {gs:List (Str × V)},Paired (fun p q=>bf[p.1]? = some q.1 ∧ aY F y ρ H p.2 q.2) fs gs → (∀ p ∈ fs,p.1 ∈ lR) → gs.lookup m = none
 | _,_,.nil,_=>rfl
 | _,_,.cons (a:=(i,w)) (b:=(z,v)) hd tl,h=>by
  have:(m == z) = false:=by
   rw [beq_eq_false_iff_ne]
   intro e; subst e
   exact hm i (h (i,w) List.mem_cons_self) hd.1
  rw [List.lookup,this]
  exact jR hm tl fun p hp=>h p (List.mem_cons_of_mem _ hp)
def bh (c n:Nat) (dA:List AV) (f:BF) (a:BE) (r:BA):BE:=fun σ S k=>a σ S fun x S1=>match x with
 | .ref i=>match S1.t.get i with
  | some (.ins c' _)=>match Nat.beq c' c with
   | true=>r σ S1 fun xs S2=>bJ n f (.ref i :: (xs ++ dA)) S2 k σ.ke
   | false=>false
  | _=>false
 | _=>false
theorem vY {c:Nat} {dA:List AV} {dvs:List V} (hm:∀ i ∈ lR,bf[i]? ≠ some m) (hd:∀ F y ρ H,aX F y ρ H dA dvs):∀ σ H Q,up g (bh c n dA f ba br) σ H Q → Br (g.cl c) m (r8 g.toGy n f) dvs g.E (up g ba) (jM g br) σ H Q:=fun σ H Q ⟨F,y,ρ,S,σa,k,C,r,h,p⟩ =>
 ay C r h fun y1 ρ1 S1 H1 ax x st C1 r1 rx h1=>by
  cases ax with
  | ref i =>
   dsimp only at h1
   cases q:S1.t.get i with
   | none=>rw [q] at h1; cases h1
   | some ob =>
    rw [q] at h1
    cases ob with
    | ins c' fs =>
     dsimp only at h1
     cases q2:Nat.beq c' c with
     | false=>rw [q2] at h1; cases h1
     | true =>
      rw [q2] at h1
      have ec:=Nat.eq_of_beq_eq_true q2
      subst ec
      obtain ⟨a,dx,gs,rfl,hρ,hc2,ha,pr,hfl⟩:=C1.ins rx q
      refine ⟨a,dx,gs,rfl,ha,jR hm pr hfl,bT C1 r1 h1 fun y2 ρ2 S2 H2 axs xs st2 C2 r2 rxs h2=>?_⟩
      have rall:aX F y2 ρ2 H2 (.ref i :: (axs ++ dA)) (.ref a :: (xs ++ dvs)):=.cons (aY.mono st2 rx) (c3 rxs (hd F y2 ρ2 H2))
      unfold bJ at h2
      cases q3:Nat.beq (AV.ref i :: (axs ++ dA)).length n with
      | false=>simp only [q3] at h2; cases h2
      | true =>
       simp only [q3] at h2
       exact ⟨F,y2,ρ2,S2,_,k,σa.ke,C2,rall,by rw [← aR rall]; exact Nat.eq_of_beq_eq_true q3,h2,p.mono (st.trans st2),r2.e⟩
    | _=>cases h1
  | _=>cases h1
theorem E4 {pl:Sem Bool} {c:Nat} {dA:List AV} (M:CG X.prog X.w X.K X.mg X.base g.toGy CX c m k n dA f) (hc:qq X.K (g.cl c)) (hm:∀ i ∈ lR,bf[i]? ≠ some m) (hr:bQ k X.A) (hx:cW CX X g.E) (ho:PE X o (up g ba)) (ha:PA X (e :: es) (jM g br))
  (hst:starEach (e :: es) X.env = (false,eval e X.env) :: starEach es X.env:=by with_unfolding_all rfl) (hpl:(backTo pos (starEach es X.env)).any (·.1) = false:=by with_unfolding_all rfl)
  (ht:eval (.Call (.Attribute o m apos) (e :: es) [] pos) X.env = (do
   let ov ← eval o X.env
   standAt apos.atName
   let (f,first) ← holding [ov] (getMethod ov m pl)
   callWith pos f first (backTo pos (starEach (e :: es) X.env)) (backToKw pos (keywordEach [] X.env))):=by with_unfolding_all rfl) :
  PE X (.Call (.Attribute o m apos) (e :: es) [] pos) (up g (bh c n dA f ba br)):=by
 obtain ⟨fa,fd,ps,ds,dvs,hn,F,me,hb,hd,hA⟩:=M
 exact PE.imp (vY hm hA) (En ho hc me F hr hb hd hx ha hst hpl ht)
theorem vZ {pl:Sem Bool} {c:Nat} {dA:List AV} (M:CG X.prog X.w X.K X.mg X.base g.toGy CX c m k n dA f) (hc:qq X.K (g.cl c)) (hm:∀ i ∈ lR,bf[i]? ≠ some m) (hr:bQ k X.A) (hx:cW CX X g.E) (ho:PE X o (up g ba))
  (ht:eval (.Call (.Attribute o m apos) [] [] pos) X.env = (do
   let ov ← eval o X.env
   standAt apos.atName
   let (f,first) ← holding [ov] (getMethod ov m pl)
   callWith pos f first (backTo pos (starEach [] X.env)) (backToKw pos (keywordEach [] X.env))):=by with_unfolding_all rfl) :
  PE X (.Call (.Attribute o m apos) [] [] pos) (up g (bh c n dA f ba aj)):=by
 obtain ⟨fa,fd,ps,ds,dvs,hn,F,me,hb,hd,hA⟩:=M
 refine PE.imp (fun σ H Q h=>?_) (Bt ho hc me F hr hb hd hx ht)
 obtain ⟨F',y,ρ,S,σa,k,C,r,h,p⟩:=h
 have:=vY (g:=g) (m:=m) (n:=n) (f:=f) (ba:=ba) (br:=aj) (c:=c) hm hA σ H Q ⟨F',y,ρ,S,σa,k,C,r,h,p⟩
 -- the same but for the empty row of arguments
 obtain ⟨F2,y2,ρ2,S2,σ2,k2,C2,r2,h2,p2⟩:=this
 refine ⟨F2,y2,ρ2,S2,σ2,k2,C2,r2,h2,fun y' ρ' S' H' av v st C' rv hk=>?_⟩
 obtain ⟨a,dx,fs,e1,e2,e3,F3,y3,ρ3,S3,σ3,k3,C3,r3,h3,p3⟩:=p2 y' ρ' S' H' av v st C' rv hk
 exact ⟨a,dx,fs,e1,e2,e3,p3 y3 ρ3 S3 H' [] [] .refl C3 .nil h3⟩
inductive t7 where
 | arg (i:Nat)
 | dfl (a:AV) (v:V) (u:Value)
def nq (zs:List AV):List t7 → List AV
 | []=>[]
 | .arg i :: r=>zs.getD i .non :: nq zs r
 | .dfl a _ _ :: r=>a :: nq zs r
def nr (zs:List V):List t7 → List V
 | []=>[]
 | .arg i :: r=>zs.getD i .non :: nr zs r
 | .dfl _ v _ :: r=>v :: nr zs r
def v1 (zs:List Value):List t7 → List Value
 | []=>[]
 | .arg i :: r=>zs.getD i .none :: v1 zs r
 | .dfl _ _ u :: r=>u :: v1 zs r
def qF:List t7 → Prop
 | []=>True
 | .arg _ :: r=>qF r
 | .dfl a v u :: r=>(∀ F y ρ H,aY F y ρ H a v) ∧ aO v u ∧ qF r
theorem CH {zs:List V} {ws:List Value} (r:aN zs ws) (i:Nat):aO (zs.getD i .non) (ws.getD i .none):=by
 cases e:zs[i]? with
 | none=>simp [List.getD,e,r.none_of e,L2.aO]
 | some v =>
  obtain ⟨u,h1,h2⟩:=r.get e
  simp [List.getD,e,h1,h2]
theorem n5 {zs:List V} {ws:List Value} (r:aN zs ws):∀ {tpl:List t7},qF tpl → aN (nr zs tpl) (v1 ws tpl)
 | [],_=>.nil
 | .arg i :: t,h=>.cons (CH r i) (n5 r (tpl:=t) h)
 | .dfl a v u :: t,h=>.cons h.2.1 (n5 r (tpl:=t) h.2.2)
theorem Aj {zs:List AV} {ws:List V} (r:aX F y ρ H zs ws) (i:Nat):aY F y ρ H (zs.getD i .non) (ws.getD i .non):=by
 cases e:zs[i]? with
 | none =>
  have hl:=aR r
  have:=List.getElem?_eq_none_iff.mp e
  have e2:ws[i]? = none:=List.getElem?_eq_none_iff.mpr (by omega)
  simp [List.getD,e,e2]; rfl
 | some v =>
  obtain ⟨u,h1,h2⟩:=dO r e
  simp [List.getD,e,h1]; exact h2
theorem kY {F:Fx} {y:Option Int} {ρ:List Addr} {H:Hp} {zs:List AV} {ws:List V} (r:aX F y ρ H zs ws):∀ {tpl:List t7},qF tpl → aX F y ρ H (nq zs tpl) (nr ws tpl)
 | [],_=>.nil
 | .arg i :: t,h=>.cons (Aj r i) (kY r (tpl:=t) h)
 | .dfl a v u :: t,h=>.cons (h.1 F y ρ H) (kY r (tpl:=t) h.2.2)
def kZ (K:PySem.W.Frag) (fd:FuncData) (ps ks:List Str) (np:Nat) (tpl:List t7):Prop :=
 ∀ (s:Shared) (us ws:List Value),K.In s.heap → us.length = np → ws.length = ks.length → BindsTo s fd ⟨us,ks.zip ws⟩ (ps.zip (us ++ v1 ws tpl))
def Ak (P:Program) (w:World) (K:PySem.W.Frag) (mg:Str → Option Value) (base:Heap) (gy:Gy) (CX:tz) (c:Nat) (m:Str) (k n np:Nat) (ks:List Str) (tpl:List t7) (f:BF):Prop :=
 ∃ fa fd ps,ps.length = n ∧ db P w K mg base CX k fa fd ps (r8 gy n f) ∧ vn K (gy.cl c) m fa ∧ kZ K fd ps ks np tpl ∧ qF tpl
theorem HC {fa:Addr} {ps ks:List Str} {np:Nat} {tpl:List t7} {sp:Sp} {σ:L2.St} {Q:VK} {us ws:List Value} {vs zs:List V} (F:db X.prog X.w X.K X.mg X.base CX k fa fd ps sp) (hr:bQ k X.A) (hb:kZ X.K fd ps ks np tpl) (ht:qF tpl) (hx:cW CX X g.E)
  (I:aG X pins σ H s) (r:aN vs us) (rz:aN zs ws) (h1:vs.length = np) (h2:zs.length = ks.length) (h:sp (vs ++ nr zs tpl) H Q g.E):wpAny (model X.prog X.w) X.A (call (.ref fa) us (ks.zip ws)) (EP X pins σ Q) X.xe s:=by
 have r2:aN (vs ++ nr zs tpl) (us ++ v1 ws tpl):=r.append (n5 rz ht)
 refine wpAny_call (codeAny_mono (F.run X.A X.stack s H ⟨us,ks.zip ws⟩ _ _ Q g.E hr I.env0 (hb s us ws I.kIn (by rw [← r.length]; exact h1) (by rw [← rz.length]; exact h2)) r2 h) fun r s' hq=>?_)
 cases r with
 | error e=>exact hx pins σ H s e s' I hq
 | ok fl =>
  cases fl with
  | ret u=>exact I.after hq
  | next=>exact False.elim hq
  | brk=>exact False.elim hq
  | cont=>exact False.elim hq
def jS (c n np nk:Nat) (tpl:List t7) (f:BF) (a:BE) (r kw:BA):BE:=fun σ S k=>a σ S fun x S1=>match x with
 | .ref i=>match S1.t.get i with
  | some (.ins c' _)=>match Nat.beq c' c with
   | true=>r σ S1 fun xs S2=>kw σ S2 fun zs S3=>match Nat.beq (xs.length + 1) np && Nat.beq zs.length nk with
    | true=>bJ n f (.ref i :: (xs ++ nq zs tpl)) S3 k σ.ke
    | false=>false
   | false=>false
  | _=>false
 | _=>false
theorem PK.imp {kws:List Keyword} {t t':TA} (h:∀ σ H Q,t' σ H Q → t σ H Q) (p:PK X kws t):PK X kws t':=fun pos pins s σ H Q I q=>p pos pins s σ H Q I (h _ _ _ q)
theorem jT:PK X [] (jM g aj):=PK.imp (fun σ H Q ⟨F,y,ρ,S,σa,k,C,r,h,p⟩=>p y ρ S H [] [] .refl C .nil h) GR
theorem fo {kws:List Keyword} {nm:Option Str} {kpos:Pos} (ha:PE X e (up g ba)) (hr:PK X kws (jM g br)):PK X (⟨nm,e,kpos⟩ :: kws) (jM g (ab ba br)) :=
 PK.imp (fun σ H Q ⟨F,y,ρ,S,σa,k,C,r,h,p⟩=>ay C r h fun y1 ρ1 S1 H1 ax x st C1 r1 rx h1=>bT C1 r1 h1 fun y2 ρ2 S2 H2 az z st2 C2 r2 rz h2=>p y2 ρ2 S2 H2 (ax :: az) (x :: z) (st.trans st2) C2 (.cons (aY.mono st2 rx) rz) h2) (Ep ha hr)
theorem gO {pl:Sem Bool} {c np:Nat} {ks:List Str} {tpl:List t7} {kws:List Keyword} (M:Ak X.prog X.w X.K X.mg X.base g.toGy CX c m k n np ks tpl f) (hc:qq X.K (g.cl c)) (hm:∀ i ∈ lR,bf[i]? ≠ some m) (hr:bQ k X.A) (hx:cW CX X g.E) (ho:PE X o (up g ba)) (ha:PA X (e :: es) (jM g br)) (hkw:PK X kws (jM g bk))
  (hall:(backToKw pos (keywordEach kws X.env)).all (·.1.isSome) = true:=by with_unfolding_all rfl) (hks:(backToKw pos (keywordEach kws X.env)).filterMap (·.1) = ks:=by with_unfolding_all rfl)
  (hst:starEach (e :: es) X.env = (false,eval e X.env) :: starEach es X.env:=by with_unfolding_all rfl)
  (hpl:((backTo pos (starEach (e :: es) X.env)).any (·.1) || (backToKw pos (keywordEach kws X.env)).any (·.1.isNone)) = false:=by with_unfolding_all rfl)
  (ht:eval (.Call (.Attribute o m apos) (e :: es) kws pos) X.env = (do
   let ov ← eval o X.env
   standAt apos.atName
   let (f,first) ← holding [ov] (getMethod ov m pl)
   callWith pos f first (backTo pos (starEach (e :: es) X.env)) (backToKw pos (keywordEach kws X.env))):=by with_unfolding_all rfl) :
  PE X (.Call (.Attribute o m apos) (e :: es) kws pos) (up g (jS c n np ks.length tpl f ba br bk)):=by
 obtain ⟨fa,fd,ps,hn,Fn,me,hb,hk⟩:=M
 intro pins s σ H Q I ⟨F,y,ρ,S,σa,kk,C,r,h,p⟩
 refine PySem.W.methodCall_KW (pl:=pl) (bw (ho pins s σ H (fun x H1=>∃ i a y1 ρ1 S1 dx gs,x = .ref a ∧ aD F y ρ H y1 ρ1 H1 ∧ aM g F y1 ρ1 S1 H1 ∧ bE g F y1 ρ1 H1 σa σ ∧ aY F y1 ρ1 H1 (.ref i) (.ref a) ∧ H1 a = some (.ins (g.cl c) dx gs) ∧ gs.lookup m = none ∧
   br σa S1 (fun xs S2=>bk σa S2 fun zs S3=>match Nat.beq (xs.length + 1) np && Nat.beq zs.length ks.length with
    | true=>bJ n f (.ref i :: (xs ++ nq zs tpl)) S3 kk σa.ke
    | false=>false) = true) I (ay C r h fun y1 ρ1 S1 H1 ax x st C1 r1 rx h1=>?_)) fun u s1 ⟨x,H1,I1,rx,i,a,y1,ρ1,S1,dx,gs,ex,st1,C1,r1,ri,ea,l,h1⟩=>?_) ht
 ·cases ax with
  | ref i =>
   dsimp only at h1
   cases q:S1.t.get i with
   | none=>rw [q] at h1; cases h1
   | some ob =>
    rw [q] at h1
    cases ob with
    | ins c' fs =>
     dsimp only at h1
     cases q2:Nat.beq c' c with
     | false=>rw [q2] at h1; cases h1
     | true =>
      rw [q2] at h1
      have ec:=Nat.eq_of_beq_eq_true q2
      subst ec
      obtain ⟨a,dx,gs,rfl,hρ,hc2,ha,pr,hfl⟩:=C1.ins rx q
      exact ⟨i,a,y1,ρ1,S1,dx,gs,rfl,st,C1,r1,rx,ha,jR hm pr hfl,h1⟩
    | _=>cases h1
  | _=>cases h1
 ·subst ex
  obtain rfl:u = Value.ref a:=rx
  refine gX I1 ea hc me l ?_
  refine PySem.W.callWith_KW (first:=[.ref a]) (h₀:=X.base) I.ok.mod.kin me.kp hall (bw (ha pos pins s1 σ H1 (fun xs H2=>∃ axs y2 ρ2 S2,aD F y1 ρ1 H1 y2 ρ2 H2 ∧ aM g F y2 ρ2 S2 H2 ∧ bE g F y2 ρ2 H2 σa σ ∧ aX F y2 ρ2 H2 axs xs ∧
    bk σa S2 (fun zs S3=>match Nat.beq (axs.length + 1) np && Nat.beq zs.length ks.length with
     | true=>bJ n f (.ref i :: (axs ++ nq zs tpl)) S3 kk σa.ke
     | false=>false) = true) I1 (bT C1 r1 h1 fun y2 ρ2 S2 H2 axs xs st2 C2 r2 rxs h2=>⟨axs,y2,ρ2,S2,st2,C2,r2,rxs,h2⟩)) fun us s2 ⟨vs,H2,I2,rv,axs,y2,ρ2,S2,st2,C2,r2,rxs,h2⟩=>?_) hpl hst
  refine bw (hkw pos pins s2 σ H2 (fun zs H3=>zs.length = ks.length ∧ (V.ref a :: vs).length = np ∧ r8 g.toGy n f ((V.ref a :: vs) ++ nr zs tpl) H3 Q g.E) I2 (bT C2 r2 h2 fun y3 ρ3 S3 H3 azs zs st3 C3 r3 rzs h3=>?_)) fun ws s3 ⟨zs,H3,I3,rz,hz,hv,q3⟩=>⟨I3.kIn,?_⟩
  ·cases q:Nat.beq (axs.length + 1) np && Nat.beq azs.length ks.length with
   | false=>simp only [q] at h3; cases h3
   | true =>
    simp only [q] at h3
    simp only [Bool.and_eq_true] at q
    have e1:=Nat.eq_of_beq_eq_true q.1
    have e2:=Nat.eq_of_beq_eq_true q.2
    have l1:=aR rxs
    have l2:=aR rzs
    have rall:aX F y3 ρ3 H3 (.ref i :: (axs ++ nq azs tpl)) (.ref a :: (vs ++ nr zs tpl)):=.cons (aY.mono (st2.trans st3) ri) (c3 (aX.mono st3 rxs) (kY rzs hk))
    refine ⟨by omega,by simp; omega,?_⟩
    unfold bJ at h3
    cases q3:Nat.beq (AV.ref i :: (axs ++ nq azs tpl)).length n with
    | false=>simp only [q3] at h3; cases h3
    | true =>
     simp only [q3] at h3
     exact ⟨F,y3,ρ3,S3,_,kk,σa.ke,C3,rall,by rw [List.cons_append,← aR rall]; exact Nat.eq_of_beq_eq_true q3,h3,p.mono ((st1.trans st2).trans st3),r3.e⟩
  ·rw [hks]
   exact HC (vs:=V.ref a :: vs) Fn hr hb hk hx I3 (.cons (show L2.aO (.ref a) (Value.ref a) from rfl) rv) rz hv hz q3
def CI (c n:Nat) (f:BF) (r:BA):BE:=fun σ S k=>r σ S fun xs S1=>bJ n f (.ref S1.n :: xs) (S1.add (.ins c [])) (fun v S2=>match v with
 | .non=>k (.ref S1.n) S2
 | _=>false) σ.ke
theorem CJ {c:Nat} (hc:c < 2):∀ σ H Q,up g (CI c n f br) σ H Q → FS (g.cl c) (r8 g.toGy n f) [] g.E (jM g br) σ H Q:=fun σ H Q ⟨F,y,ρ,S,σa,k,C,r,h,p⟩ =>
 bT C r h fun y1 ρ1 S1 H1 axs xs st C1 r1 rx h1=>by
  intro x dx hx hdx ne
  rw [List.append_nil]
  have hx2:(upd H1 dx (.own x)) x = none:=by rw [am (Ne.symm ne)]; exact hx
  have st2:aD F y1 ρ1 H1 y1 ρ1 (upd H1 dx (.own x)):=aD.lay hdx
  have C2:=C1.lay (o:=.own x) hdx
  have st3:aD F y1 ρ1 (upd H1 dx (.own x)) y1 (ρ1 ++ [x]) (upd (upd H1 dx (.own x)) x (.ins (g.cl c) dx [])):=aD.add hx2
  have C3:=C2.add (o:=.ins c []) (ho:=.ins (g.cl c) dx []) hx2 ⟨dx,[],⟨hc,rfl,fun p hp=>(nomatch hp)⟩,.nil⟩
  have st4:=(st.trans st2).trans st3
  have rn:∀ {H':Hp},aY F y1 (ρ1 ++ [x]) H' (.ref S1.n) (.ref x):=fun {H'}=>⟨x,by rw [C1.n]; simp,rfl⟩
  have rall:aX F y1 (ρ1 ++ [x]) (upd (upd H1 dx (.own x)) x (.ins (g.cl c) dx [])) (.ref S1.n :: axs) (.ref x :: xs):=.cons rn (aX.mono (st2.trans st3) rx)
  unfold bJ at h1
  cases q3:Nat.beq (AV.ref S1.n :: axs).length n with
  | false=>simp only [q3] at h1; cases h1
  | true =>
   simp only [q3] at h1
   refine ⟨F,y1,_,_,_,_,σa.ke,C3,rall,by rw [← Paired.length rall]; exact Nat.eq_of_beq_eq_true q3,h1,fun y5 ρ5 S5 H5 av v st5 C5 rv h5=>?_,r.e.mono st4⟩
   cases av with
   | non=>exact ⟨rv,p y5 ρ5 S5 H5 (.ref S1.n) _ (st4.trans st5) C5 (aY.mono (av:=.ref S1.n) st5 rn) h5⟩
   | _=>cases h5
def KB (P:Program) (w:World) (K:PySem.W.Frag) (mg:Str → Option Value) (base:Heap) (gy:Gy) (CX:tz) (c:Nat) (x:Str) (k n:Nat) (f:BF):Prop :=
 ∃ fa fd ps,ps.length = n ∧ db P w K mg base CX k fa fd ps (r8 gy n f) ∧ Mk K (gy.cl c) fa ∧ mg x = some (.ref (gy.cl c)) ∧ dH K fd ps []
theorem E5 {c:Nat} (hc:c < 2) (M:KB X.prog X.w X.K X.mg X.base g.toGy CX c x k n f) (hr:bQ (k + 1) X.A) (hx:cW CX X g.E) (ha:PA X (e :: es) (jM g br)) (hg:Gl X x:=by with_unfolding_all rfl) (hdb:(x == ("__debug__":Str)) = false:=by decide)
  (he:starEach (e :: es) X.env = (false,eval e X.env) :: starEach es X.env:=by with_unfolding_all rfl) (hpl:(backTo pos (starEach es X.env)).any (·.1) = false:=by with_unfolding_all rfl):PE X (.Call (.Name x p) (e :: es) [] pos) (up g (CI c n f br)):=by
 obtain ⟨fa,fd,ps,hn,F,mk,hm,hb⟩:=M
 exact PE.imp (CJ hc) (Eo mk F hr hg hm hb .nil hx ha hdb he hpl)
end
section
theorem HE {x qual:Str} {fa:Addr} {N ps:List Str} {k n:Nat} {b:BS} (F:Fun K x qual st fa fd) (S:al N ps (ag st)) (hn:ps.length = n:=by decide) (hN:ps.length ≤ N.length:=by decide)
  (hbody:∀ (cdv:Value) (A:Around) (outer:List Env) (s:Shared) (H:Hp) (E:XK),bQ k (A.deeper (envOfC qual (ag st) s.heap.objs.size fa cdv)) → iz (m8 fT P w K mg base N qual (ag st) fa cdv A outer s H E).nox (bd st) (dh ⟨gy,E⟩ b)) :
  db P w K mg base fT (k + 1) fa fd ps (r8 gy n (cq N.length b)):=by
 refine F.ok S (fun vs H Q E h=>?_) (fun cdv A outer s H vs Q E hr h=>?_)
 ·obtain ⟨_,_,_,_,_,_,_,_,_,hl,_⟩:=h
  rw [hl,hn]
 ·exact xB (CX:=fT) (A:=A) (outer:=outer) (s:=s) hN hn h (hbody cdv A outer s H E hr)
end
end RB
namespace RB
open PySem PySem.Spec L2
theorem Al:bootBuiltins "any" = some (.builtin "any"):=by decide +kernel
theorem Am:bootBuiltins "all" = some (.builtin "all"):=by decide +kernel

structure Jt (mg:Str → Option Value):Prop extends Mods mg where
 any:mg "any" = none
 all:mg "all" = none
end RB
namespace L2
open PySem PySem.Spec PyProof.Rows
section
variable {a b:Expr} {ta tb:TE} {rest:List Expr}
theorem Ju:IX X (fun x H Q=>on (qA H x) fun b=>Q b H):=by
 intro pins s σ H x v Q I rx h
 obtain ⟨b,e,q⟩:=dz h
 refine wV pins s σ H x v Q I rx ⟨b,?_,q⟩
 cases x with
 | non=>cases e; rfl
 | bl b=>cases e; rfl
 | int i=>cases e; rfl
 | ref a =>
  simp only [qA] at e
  split at e
  ·cases e; exact .inl ⟨_,.inl (.inl ‹_›),rfl⟩
  ·cases e; exact .inr (.inl ⟨_,fh.of ‹_›,rfl⟩)
  ·cases e; exact .inl ⟨_,.inl (.inr ⟨_,‹_›⟩),rfl⟩
  ·cases e; exact .inr (.inr ⟨_,‹_›,rfl⟩)
  ·cases e
 | _=>cases e
def KC (ta tb:TE):TE:=fun σ H Q=>ta σ H fun x H1=>on (qA H1 x) fun c=>if c = true then Q x H1 else tb σ H1 Q
theorem HF (ha:PE X a ta) (hb:PE X (.BoolOp .Or (b :: rest) pos) tb):PE X (.BoolOp .Or (a :: b :: rest) pos) (KC ta tb):=by
 intro pins s σ H Q I h
 refine BoolOp_or (bw (ha pins s σ H _ I h) fun v s1 ⟨x,H1,I1,r1,q1⟩=>?_)
 refine bw (Ju pins s1 σ H1 x v (fun c H2=>if c = true then Q x H2 else tb σ H2 Q) I1 r1 q1) fun c s2 ⟨H2,I2,q2⟩=>?_
 cases c with
 | false=>exact hb pins s2 σ H2 Q I2 q2
 | true=>exact ⟨x,H2,I2,r1,q2⟩
theorem t8:∀ {bs:List Bool} {us:List Value},aN (bs.map V.bl) us → us = bs.map Value.bool
 | [],_,r=>by cases r; rfl
 | b :: bs,_,r=>by
  cases r with
  | cons h t=>cases h; rw [t8 t]; rfl
theorem v2 (bs:List Bool):(List.range bs.length).map (fun i=>bs.getD i false) = bs:=by
 apply List.ext_getElem
 ·simp
 ·intro i h1 h2
  simp at h1
  simp [List.getD,h1]
def Gd:List V → Hp → VK → Prop:=fun xs H Q=>∃ (a:Addr) (bs:List Bool),xs = [.ref a] ∧ H a = some (.lst (bs.map V.bl)) ∧ Q (.bl (bs.any id)) H
def Ge:List V → Hp → VK → Prop:=fun xs H Q=>∃ (a:Addr) (bs:List Bool),xs = [.ref a] ∧ H a = some (.lst (bs.map V.bl)) ∧ Q (.bl (bs.all id)) H
theorem v3 (bs:List Bool):TruthOf prog w A (fun i v=>(bs.map Value.bool).toArray[i]? = some v) (fun i=>bs.getD i false):=by
 intro i v s Q E hP hQ
 rw [List.getElem?_toArray,List.getElem?_map] at hP
 cases e:bs[i]? with
 | none=>rw [e] at hP; cases hP
 | some c =>
  rw [e] at hP
  cases hP
  have:bs.getD i false = c:=by simp [List.getD,e]
  dsimp only at hQ
  rw [this] at hQ
  exact wpAny_truthy_bool hQ
theorem An (hc:X.calm = true):dy X (.builtin "any") Gd:=by
 intro pins s σ H xs us Q I r h
 obtain ⟨a,bs,rfl,ha,q⟩:=h
 obtain ⟨u,rfl,ru⟩:=iH r
 cases ru
 obtain ⟨its,n,rv,ho,hz⟩:=I.lst ha
 have e:=t8 rv
 subst e
 have hl:s.heap.IsList a (bs.map Value.bool).toArray:=⟨_,ho,rfl,n,rfl⟩
 have hne:a ≠ s.heap.objs.size:=Nat.ne_of_lt (Heap.lt_size ho)
 have kp:∀ b o,s.heap.get? b = some o → (s.heap.push { cls:=.type "list_iterator",data:=.fields #[.ref a,.int 0 0] }).get? b = some o:=fun b o e=>Heap.get?_push_of_some _ e
 refine call_any_walk (wpAny_pyIter_list hl ⟨_,_,_,_,_,_,_,rfl,Walks.list (A:=X.A.in1) (I.ok.hd hc) s.heap.objs.size a hne (bs.map Value.bool).toArray,⟨⟨_,Heap.get?_push_size _ rfl,rfl,rfl⟩,⟨_,kp a _ ho,rfl,n,rfl⟩⟩,v3 bs,fun h' tk kk=>?_⟩)
 refine ⟨.bl (bs.any id),H,I.kept fun b o e=>kk b o (fun m=>?_) (kp b o e),?_,q⟩
 ·have:b = s.heap.objs.size:=by simpa using m
  exact absurd (Heap.lt_size e) (by rw [this]; exact Nat.lt_irrefl _)
 ·show Value.bool _ = Value.bool _
  congr 1
  conv=>rhs; rw [← v2 bs]
  rw [List.any_map]
  simp
theorem Ao (hc:X.calm = true):dy X (.builtin "all") Ge:=by
 intro pins s σ H xs us Q I r h
 obtain ⟨a,bs,rfl,ha,q⟩:=h
 obtain ⟨u,rfl,ru⟩:=iH r
 cases ru
 obtain ⟨its,n,rv,ho,hz⟩:=I.lst ha
 have e:=t8 rv
 subst e
 have hl:s.heap.IsList a (bs.map Value.bool).toArray:=⟨_,ho,rfl,n,rfl⟩
 have hne:a ≠ s.heap.objs.size:=Nat.ne_of_lt (Heap.lt_size ho)
 have kp:∀ b o,s.heap.get? b = some o → (s.heap.push { cls:=.type "list_iterator",data:=.fields #[.ref a,.int 0 0] }).get? b = some o:=fun b o e=>Heap.get?_push_of_some _ e
 refine call_all_walk (wpAny_pyIter_list hl ⟨_,_,_,_,_,_,_,rfl,Walks.list (A:=X.A.in1) (I.ok.hd hc) s.heap.objs.size a hne (bs.map Value.bool).toArray,⟨⟨_,Heap.get?_push_size _ rfl,rfl,rfl⟩,⟨_,kp a _ ho,rfl,n,rfl⟩⟩,v3 bs,fun h' tk kk=>?_⟩)
 refine ⟨.bl (bs.all id),H,I.kept fun b o e=>kk b o (fun m=>?_) (kp b o e),?_,q⟩
 ·have:b = s.heap.objs.size:=by simpa using m
  exact absurd (Heap.lt_size e) (by rw [this]; exact Nat.lt_irrefl _)
 ·show Value.bool _ = Value.bool _
  congr 1
  conv=>rhs; rw [← v2 bs]
  rw [List.all_map]
  simp
theorem nu {a:Addr} {its:Array Value} (hz:¬ (its.size:Int) ≥ 2 ^ 63) :
  Meets (Builtin.«bool.__new__» ⟨[.type "bool",.ref a],[]⟩) (fun _ R s=>s.heap.IsList a its ∧ R (.ok (.ret (.bool (!its.isEmpty)))) { s with toks:=s.toks + 1 + 1 }) :=
 Meets.of_wp fun pr w' A' R' st hst=>by
  obtain ⟨h0,g0,d0,t0,o0⟩:=st
  obtain ⟨hl,hs⟩:=hst
  have sub0:=F.conv_sub_bool
  repeat (any_goals (first | assumption | (with_reducible refine wpAny_truthy_list hl (by omega) ?_) | wp_step))
  all_goals first | exact ⟨_,rfl,hs⟩ | exact hs | skip
def CK:List V → Hp → VK → Prop:=fun xs H Q=>∃ a ys,xs = [.ref a] ∧ H a = some (.lst ys) ∧ Q (.bl (!ys.isEmpty)) H
theorem xC:dy X (.type "bool") CK:=by
 intro pins s σ H xs us Q I r h
 obtain ⟨a,ys,rfl,ha,q⟩:=h
 obtain ⟨u,rfl,ru⟩:=iH r
 cases ru
 obtain ⟨its,n,rv,ho,hz⟩:=I.lst ha
 have hlen:=rv.length
 have h63:=lJ
 refine call_bool_1 (nu (a:=a) (its:=its.toArray) (by rw [List.size_toArray]; omega)) ⟨⟨_,ho,rfl,n,rfl⟩,?_⟩
 exact ⟨rfl,.bl (!ys.isEmpty),H,(I.tok _).tok _,by rw [← jI rv]; rfl,q⟩
theorem E6 {body:List Stmt} {h0:ExceptHandler} {hs:List ExceptHandler} {t:TS} (hx:∀ e s,X.xe e s → False) (h:iz X body t):PS X (.Try body (h0 :: hs) [] [] pos) t:=by
 intro pins s σ H D I q
 refine wpAny_Try_except (wpAny_mono (h pins s σ H D I q) (fun f s1 q1=>?_) fun e s1 q1=>(hx e s1 q1).elim)
 cases f with
 | next=>exact wpAny_execs_nil q1
 | ret v=>exact q1
 | brk=>exact q1
 | cont=>exact q1
end
end L2
namespace RB
open PySem L2
section
variable {a b c e o:Expr} {ba bb bc:BE} {bt:BT} {br bk:BA} {s1 s2:BS} {es rest:List Expr}
def Jv (a b:BE):BE:=fun σ S k=>a σ S fun x S1=>match Ad S1 x with
 | some true=>k x S1
 | some false=>b σ S1 k
 | none=>false
theorem HG (ha:PE X a (up g ba)) (hb:PE X (.BoolOp .Or (b :: rest) pos) (up g bb)):PE X (.BoolOp .Or (a :: b :: rest) pos) (up g (Jv ba bb)):=by
 refine PE.imp (fun σ H Q ⟨F,y,ρ,S,σa,k,C,r,h,p⟩=>?_) (HF ha hb)
 refine ay C r h fun y1 ρ1 S1 H1 ax x st C1 r1 rx h1=>?_
 cases q:Ad S1 ax with
 | none=>simp only [q] at h1; cases h1
 | some d =>
  simp only [q] at h1
  rw [y8 C1 rx q,bW]
  cases d with
  | true=>exact qx (p y1 ρ1 S1 H1 ax x st C1 rx h1)
  | false=>exact qw ⟨F,y1,ρ1,S1,σa,k,C1,r1,h1,p.mono st⟩
def CL:List AV → Option (List Bool)
 | []=>some []
 | .bl b :: r=>match CL r with
  | some bs=>some (b :: bs)
  | none=>none
 | _ :: _=>none
theorem t9 {F:Fx} {y:Option Int} {ρ:List Addr} {H:Hp}:∀ {xs:List AV} {vs:List V} {bs:List Bool},aX F y ρ H xs vs → CL xs = some bs → vs = bs.map V.bl
 | _,_,_,.nil,h=>by cases h; rfl
 | _,_,bs,.cons (a:=ax) r t,h=>by
  cases ax with
  | bl c =>
   unfold CL at h
   split at h
   ·rename_i cs q
    cases h
    rw [t9 t q]
    cases (show _ = V.bl c from r)
    rfl
   ·cases h
  | _=>cases h
def HH:List AV → aT → (AV → aT → Bool) → Bool:=fun xs S k=>match xs with
 | [x]=>match jl S x with
  | some ys=>match CL ys with
   | some bs=>k (.bl (bs.any id)) S
   | none=>false
  | none=>false
 | _=>false
def hO:List AV → aT → (AV → aT → Bool) → Bool:=fun xs S k=>match xs with
 | [x]=>match jl S x with
  | some ys=>match CL ys with
   | some bs=>k (.bl (bs.all id)) S
   | none=>false
  | none=>false
 | _=>false
theorem E7:nj g Gd HH:=by
 intro F y ρ S H xs axs k Q C rx h p
 unfold HH at h
 split at h
 ·split at h
  ·rename_i ys q
   split at h
   ·rename_i bs q2
    cases rx with | cons r t=>cases t with | nil =>
    obtain ⟨n,a,vs,rfl,rfl,_,ha,pr⟩:=c6 C r q
    have e:=t9 pr q2
    subst e
    exact ⟨a,bs,rfl,ha,p.here C (av:=.bl _) rfl h⟩
   ·cases h
  ·cases h
 ·cases h
theorem E8:nj g Ge hO:=by
 intro F y ρ S H xs axs k Q C rx h p
 unfold hO at h
 split at h
 ·split at h
  ·rename_i ys q
   split at h
   ·rename_i bs q2
    cases rx with | cons r t=>cases t with | nil =>
    obtain ⟨n,a,vs,rfl,rfl,_,ha,pr⟩:=c6 C r q
    have e:=t9 pr q2
    subst e
    exact ⟨a,bs,rfl,ha,p.here C (av:=.bl _) rfl h⟩
   ·cases h
  ·cases h
 ·cases h
def CN:List AV → aT → (AV → aT → Bool) → Bool:=fun xs S k=>match xs with
 | [x]=>match jl S x with
  | some ys=>k (.bl (!ys.isEmpty)) S
  | none=>false
 | _=>false
theorem CO:nj g CK CN:=by
 intro F y ρ S H xs axs k Q C rx h p
 unfold CN at h
 split at h
 ·split at h
  ·rename_i ys q
   cases rx with | cons r t=>cases t with | nil =>
   obtain ⟨n,a,vs,rfl,rfl,_,ha,pr⟩:=c6 C r q
   refine ⟨a,vs,rfl,ha,?_⟩
   rw [← g9 pr]
   exact p.here C (av:=.bl _) rfl h
  ·cases h
 ·cases h
def Jw:AV → aT → (AV → aT → Bool) → Bool:=fun x S k=>match x with
 | .int false lo hi=>k (.int false (-hi) (-lo)) S
 | _=>false
theorem E9:Kx g (rU fun i=>.int (-i)) Jw:=by
 intro F y ρ S H x ax k Q C rx h p
 cases ax with
 | int s lo hi=>cases s with
  | true=>cases h
  | false =>
   obtain ⟨z,rfl,h1,h2⟩:=rx
   exact ⟨z,rfl,p.here C (av:=.int false _ _) ⟨_,rfl,by omega,by omega⟩ h⟩
 | _=>cases h
def Ap (a:BE):BE:=K9 Jw a
theorem oU (ha:PE X a (up g ba)):PE X (.UnaryOp .USub a pos) (up g (Ap ba)) :=
 PE.imp (fun σ H Q ⟨F,y,ρ,S,σa,k,C,r,h,p⟩=>ay C r h fun y1 ρ1 S1 H1 ax x st C1 r1 rx h1=>E9 F y1 ρ1 S1 H1 x ax k Q C1 rx h1 (p.mono st)) (IY GM ha)
def Fa (xs:List AV):Nat → List AV
 | 0=>[]
 | n + 1=>xs ++ Fa xs n
def Aq:AV → AV → aT → (AV → aT → Bool) → Bool:=fun a b S k=>match b with
 | .int false lo hi=>match eI lo hi && eI hi lo && eI 0 lo && eI lo 20 with
  | true=>match jl S a with
   | some xs=>match Nat.ble xs.length 20 with
    | true=>k (.ref S.n) (S.add (.lst (Fa xs lo.toNat)))
    | false=>false
   | none=>false
  | false=>false
 | _=>false
theorem zd {F:Fx} {y:Option Int} {ρ:List Addr} {H:Hp} {xs:List AV} {vs:List V} (r:aX F y ρ H xs vs):∀ n,aX F y ρ H (Fa xs n) (List.replicate n vs).flatten
 | 0=>.nil
 | n + 1=>by rw [List.replicate_succ,List.flatten_cons]; exact c3 r (zd r n)
theorem n6:iN g Jb Aq:=by
 intro F y ρ S H x z ax az k Q C rx rz h p
 unfold Aq at h
 split at h
 ·rename_i lo hi
  split at h
  ·rename_i q0
   simp only [Bool.and_eq_true,bK] at q0
   split at h
   ·rename_i xs q
    split at h
    ·rename_i q2
     obtain ⟨i,rfl,b1,b2⟩:=rz
     have:i = lo:=by omega
     subst this
     obtain ⟨n,a,vs,rfl,rfl,_,ha,pr⟩:=c6 C rx q
     have hl:=aR pr
     have hl2:=bO q2
     refine ⟨a,i,vs,rfl,rfl,ha,by omega,by omega,?_,fun pl hp=>?_⟩
     ·have h1:vs.length * i.toNat ≤ 20 * 20:=Nat.mul_le_mul (by omega) (by omega)
      exact Nat.le_of_lt (ce (by omega))
     ·have st:aD F y ρ H y (ρ ++ [pl]) (upd H pl (.lst (List.replicate i.toNat vs).flatten)):=aD.add hp
      exact p y _ _ _ (.ref S.n) _ st (C.add (o:=.lst (Fa xs i.toNat)) hp ⟨_,rfl,zd (aX.mono st pr) _⟩) ⟨pl,by rw [C.n]; simp,rfl⟩ h
    ·cases h
   ·cases h
  ·cases h
 ·cases h
def HI (n:Nat) (a:BE):BE:=fun σ S k=>a σ S fun x S1=>match lV x with
 | some xs=>match Nat.ble n xs.length with
  | true=>k (chain (xs.drop n)) S1
  | false=>false
 | none=>false
theorem lZ {F:Fx} {y:Option Int} {ρ:List Addr} {H:Hp}:∀ {xs:List AV} {vs:List V} (n:Nat),aX F y ρ H xs vs → aX F y ρ H (xs.drop n) (vs.drop n)
 | _,_,0,r=>r
 | _,_,_ + 1,.nil=>.nil
 | _,_,n + 1,.cons _ t=>lZ n t
theorem Ar (n:Nat) (xs:List V) (h:n ≤ xs.length):jK xs (some (n:Int)) none = xs.drop n:=by
 unfold jK
 have e:HT.sIx xs.length 0 (some (n:Int)) = min n xs.length:=HT.sIx_nat xs.length 0 n
 rw [e,HT.sIx_none,Nat.min_eq_left h,List.take_of_length_le (by rw [List.length_drop]; exact Nat.le_refl _)]
theorem CP (n:Nat) (h:PE X e (K0 FZ (up g ba) (FU (tC (.int (n:Int)))) yr)):PE X e (up g (HI n ba)):=by
 refine PE.imp (fun σ H Q ⟨F,y,ρ,S,σa,k,C,r,h,p⟩=>?_) h
 refine ay C r h fun y1 ρ1 S1 H1 ax x st C1 r1 rx h1=>⟨(n:Int),rfl,?_⟩
 cases q:lV ax with
 | none=>simp only [q] at h1; cases h1
 | some xs =>
  simp only [q] at h1
  split at h1
  ·rename_i q2
   obtain ⟨a,vs,rfl,ha,pr⟩:=f6 rx q
   have hl:=aR pr
   have hn:=bO q2
   show on (gC H1 (.ref a)) fun xs=>(∀ p,H1 p = none → Q (.ref p) (upd H1 p (.tup (jK xs (some (n:Int)) none)))) ∧ (jK xs (some (n:Int)) none = xs → Q (.ref a) H1)
   rw [gE ha,bW,Ar n vs (by omega)]
   refine ⟨fun pl hp=>?_,fun e=>?_⟩
   ·have st2:aD F y1 ρ1 H1 y1 ρ1 (upd H1 pl (.tup (vs.drop n))):=aD.lay hp
    exact p y1 ρ1 S1 _ _ _ (st.trans st2) (C1.lay hp) (aY.chain aC (aX.mono st2 (lZ n pr))) h1
   ·have pr2:=lZ n pr
    rw [e] at pr2
    exact p y1 ρ1 S1 H1 _ _ st C1 (aY.chain ha pr2) h1
  ·cases h1
abbrev BP:=eD → aT → (List (AV × AV) → aT → Bool) → Bool
def Gf:BP:=fun _ S k=>k [] S
def ub (a b:BE) (r:BP):BP:=fun σ S k=>a σ S fun x S1=>b σ S1 fun z S2=>r σ S2 fun ps S3=>k ((x,z) :: ps) S3
end
end RB
namespace L2
open PySem PySem.Spec PyProof.Rows
structure KD (h:Heap) (d:Addr) (ob:Obj) (es:Array DictEntry) (ep:Nat):Prop where
 at_:h.get? d = some ob
 ex:ob.ExactDict
 dat:ob.data = .dict es ep
section
variable {d it:Addr} {ob:Obj} {es:Array DictEntry} {ep i:Nat} {ok ov:Value}
theorem CQ (hd:(d == sysModules) = false):MeetsIn prog w (Builtin.«dict.items» ⟨[.ref d],[]⟩) (fun _ R s=>s.TypeIs (.ref d) "dict" ∧
  R (.ok (.ret (.ref s.heap.objs.size))) { s with heap:=s.heap.push { cls:=.type "dict_items",data:=.fields #[.ref d] } }) :=
 .of_wp fun A' R' st ⟨ty,h⟩=>by
  unfold Builtin.«dict.items» Builtin.Dict.noArgs
  refine wpAny_bind (wpAny_bind (wpAny_notOrdered_dict ty ?_))
  show wpAny _ _ (pure d) _ _ st
  refine wpAny_pure (show wpAny _ _ (Builtin.Dict.showsAll d >>= _) _ _ st from ?_)
  unfold Builtin.Dict.showsAll
  rw [if_neg (by rw [hd]; decide)]
  exact wpAny_bind (wpAny_pure (wpAny_bind (wpAny_newObj_type (wpAny_pure ⟨_,rfl,h⟩))))
theorem CS {v:Addr} {Q:Value → Shared → Prop} (hv:s.heap.IsItemsView v d) (en:KD s.heap d ob es ep)
  (hQ:Q (.ref s.heap.objs.size) { s with heap:=s.heap.push { cls:=.type "dict_itemiterator",data:=.fields #[.none,.bool false,.ref d,.int 0 0,.int es.size 0,.int ep 0,.none,.none] } }) :
  wpAny (model prog w) A (pyIter (.ref v)) Q E s:=by
 obtain ⟨o2,g1,g2,g3⟩:=id hv
 refine wpAny_pyIter_slot hv.typeIs F.slot_dict_items_iter (wpAny_call_entry F.slot_dict_items_iter hv.typeIs F.entry_dict_items_iter ?_ (F.args_dict_items_iter_1 _))
 unfold Builtin.«dict_items.__iter__» Builtin.Dict_items.dictOf Builtin.Dict_items.newIterator
 refine wpAny_bind (wpAny_pure (wpAny_bind (wpAny_bind (wpAny_field g1 g3 (x:=.ref d) rfl (wpAny_pure (wpAny_bind (wpAny_bind (wpAny_dictEntries en.at_ en.dat (wpAny_bind (wpAny_dictEpoch en.at_ en.dat ?_))))))))))
 have own:Builtin.Dict_items.ownsTuple "dict_itemiterator" = true:=by decide
 rw [own]
 refine wpAny_newObj_type (wpAny_pure ⟨_,rfl,"dict_itemiterator",_,⟨_,Heap.get?_push_size _ rfl,rfl⟩,F.slot_dict_itemiterator_next.lookup,?_⟩) ?_
 ·simpa [rawInt,Builtin.Dict_items.ownedTupleFields] using hQ
 ·simp only [sizeOk,Builtin.Dict_items.ownedTupleFields,if_true,List.size_toArray,List.length_append,List.length_cons,List.length_nil,sizeLine_eq]
  omega
theorem CT {Q:Option Value → Shared → Prop} {e:DictEntry} (hit:IsItemIter s.heap it d i es.size ep ok ov) (en:KD s.heap d ob es ep) (hx:es[i]? = some e)
  (hQ:∀ h',IsItemIterOut h' it d (i + 1) es.size ep e.key e.val s.heap.objs.size → h'.get? s.heap.objs.size = some { cls:=.type "tuple",data:=.seq #[e.key,e.val] } → h'.objs.size = s.heap.objs.size + 1 →
   (∀ b o,b ≠ it → s.heap.get? b = some o → h'.get? b = some o) → Q (some (.ref s.heap.objs.size)) { s with heap:=h' }) :
  wpAny (model prog w) A (pyNext (.ref it)) Q E s:=by
 obtain ⟨h0,g0,d0,t0,o0⟩:=s
 have ty:Shared.TypeIs ⟨h0,g0,d0,t0,o0⟩ (.ref it) "dict_itemiterator":=⟨_,hit,rfl⟩
 have own:Builtin.Dict_items.ownsTuple "dict_itemiterator" = true:=by decide
 have hlt:i < es.size:=(Array.getElem?_eq_some_iff.mp hx).1
 unfold pyNext
 refine wpAny_bind (wpAny_attempt (wpAny_callSpecial?_slot (name:=Str.ofString "__next__") ty F.slot_dict_itemiterator_next (wpAny_call_entry F.slot_dict_itemiterator_next ty F.entry_dict_itemiterator_next ?_ (F.args_dict_itemiterator_next_1 _))))
 refine wpAny_bind (wpAny_pure (wpAny_bind (wpAny_bind ?_)))
 first | refine wpAny_bind (wpAny_typeNameOfWhole_itemiter ty (wpAny_pure (wpAny_bind (wpAny_fieldsOf hit rfl ?_)))) | refine wpAny_bind (wpAny_typeNameOf_itemiter ty (wpAny_pure (wpAny_bind (wpAny_fieldsOf hit rfl ?_))))
 rw [own]
 simp only [if_true]
 show wpAny _ _ (if (Value.ref d == Value.none) = true then _ else _) _ _ _
 rw [if_neg (show ¬ ((Value.ref d == Value.none) = true) from Bool.false_ne_true)]
 refine wpAny_bind (wpAny_pure (wpAny_bind (wpAny_dictEntries en.at_ en.dat ?_)))
 rw [if_neg (by simp)]
 refine wpAny_bind (wpAny_pure (wpAny_bind (wpAny_dictEpoch en.at_ en.dat ?_)))
 rw [if_neg (by simp)]
 refine wpAny_pure ?_
 simp only [show ¬ ((i:Int) < 0) from by omega,if_false,Int.toNat_natCast,hx]
 refine wpAny_bind ?_
 first | refine wpAny_bind (wpAny_typeNameOfWhole_itemiter ty (wpAny_pure (wpAny_bind (wpAny_isOneOf_itemiter ty ?_)))) | refine wpAny_bind (wpAny_typeNameOf_itemiter ty (wpAny_pure (wpAny_bind (wpAny_isOneOf_itemiter ty ?_))))
 show wpAny _ _ (setField (.ref it) 3 (rawInt ((i:Int) + 1)) >>= _) _ _ ⟨h0,g0,d0,t0,o0⟩
 refine wpAny_bind (wpAny_setField_rec hit (by simp) fun h1 e1 b1=>?_)
 have sb1:Heap.SameBut it h0 h1:=b1
 have it1:IsItemIter h1 it d (i + 1) es.size ep ok ov:=by
  have z:((i + 1:Nat):Int) = (i:Int) + 1:=by omega
  show h1.get? it = _
  rw [z]
  simpa [rawInt] using e1
 have ty1:Shared.TypeIs ⟨h1,g0,d0,t0,o0⟩ (.ref it) "dict_itemiterator":=⟨_,it1,rfl⟩
 refine wpAny_bind (wpAny_holding (wpAny_bind (wpAny_isOneOf_itemiter ty1 (wpAny_bind (wpAny_isOneOf_itemiter ty1 ?_)))))
 show wpAny _ _ (Builtin.Dict_items.pairFromOwner (.ref it) 6 e.key e.val) _ _ ⟨h1,g0,d0,t0,o0⟩
 unfold Builtin.Dict_items.pairFromOwner Builtin.Dict_items.ownedTupleIsFree
 refine wpAny_bind (wpAny_newTuple ?_)
 have sz1:h1.objs.size = h0.objs.size:=sb1.1
 have lt0:it < h0.objs.size:=Heap.lt_size hit
 have it2:IsItemIter (h1.push { cls:=.type "tuple",data:=.seq #[e.key,e.val] }) it d (i + 1) es.size ep ok ov:=Heap.get?_push_of_some _ it1
 have tp2:(h1.push { cls:=.type "tuple",data:=.seq #[e.key,e.val] }).get? h0.objs.size = some { cls:=.type "tuple",data:=.seq #[e.key,e.val] }:=by rw [← sz1]; exact Heap.get?_push_size _ rfl
 have sz2:(h1.push { cls:=.type "tuple",data:=.seq #[e.key,e.val] }).objs.size = h0.objs.size + 1:=by rw [Heap.size_push,sz1]
 have kp2:∀ b o,b ≠ it → h0.get? b = some o → (h1.push { cls:=.type "tuple",data:=.seq #[e.key,e.val] }).get? b = some o:=fun b o n q=>Heap.get?_push_of_some _ (sb1.extBut b o n q)
 show wpAny _ _ (_ >>= _) _ _ ⟨h1.push { cls:=.type "tuple",data:=.seq #[e.key,e.val] },g0,d0,t0,o0⟩
 revert it2 tp2 sz2 kp2
 generalize h1.push { cls:=.type "tuple",data:=.seq #[e.key,e.val] } = h2
 intro it2 tp2 sz2 kp2
 rw [sz1]
 refine wpAny_bind (wpAny_bind (wpAny_field it2 rfl (x:=.none) rfl (wpAny_pure ?_)))
 simp only [if_true]
 refine wpAny_bind (wpAny_field it2 rfl (x:=ok) rfl (wpAny_bind (wpAny_field it2 rfl (x:=ov) rfl ?_)))
 refine wpAny_bind (wpAny_setField_rec it2 (by simp) fun h3 e3 b3=>?_)
 have it3:IsItemIter h3 it d (i + 1) es.size ep e.key ov:=e3
 refine wpAny_bind (wpAny_setField_rec it3 (by simp) fun h4 e4 b4=>?_)
 have it4:IsItemIter h4 it d (i + 1) es.size ep e.key e.val:=e4
 refine wpAny_bind (wpAny_setField_rec it4 (by simp) fun h5 e5 b5=>?_)
 have it5:IsItemIterOut h5 it d (i + 1) es.size ep e.key e.val h0.objs.size:=e5
 refine wpAny_bind (wpAny_setField_rec it5 (by simp) fun h6 e6 b6=>?_)
 have it6:IsItemIterOut h6 it d (i + 1) es.size ep e.key e.val h0.objs.size:=e6
 have s3:Heap.SameBut it h2 h3:=b3
 have s4:Heap.SameBut it h3 h4:=b4
 have s5:Heap.SameBut it h4 h5:=b5
 have s6:Heap.SameBut it h5 h6:=b6
 have all:∀ b o,b ≠ it → h2.get? b = some o → h6.get? b = some o:=fun b o n q=>s6.extBut b o n (s5.extBut b o n (s4.extBut b o n (s3.extBut b o n q)))
 refine wpAny_bind (wpAny_letGo (wpAny_pure (wpAny_pure ⟨_,rfl,wpAny_pure (hQ h6 it6 (all _ _ (Nat.ne_of_gt lt0) tp2) ?_ fun b o n q=>all b o n (kp2 b o n q))⟩)))
 show h6.objs.size = h0.objs.size + 1
 rw [s6.1,s5.1,s4.1,s3.1,sz2]
theorem Fb {Q:Option Value → Shared → Prop} (hh:A.handled = none) (hit:IsItemIter s.heap it d i es.size ep ok ov) (en:KD s.heap d ob es ep) (hx:es.size ≤ i)
  (hQ:∀ h',Heap.ExtBut it s.heap h' → Q none { s with heap:=h' }):wpAny (model prog w) A (pyNext (.ref it)) Q E s:=by
 have ty:s.TypeIs (.ref it) "dict_itemiterator":=⟨_,hit,rfl⟩
 have own:Builtin.Dict_items.ownsTuple "dict_itemiterator" = true:=by decide
 unfold pyNext
 refine wpAny_bind (wpAny_attempt (wpAny_callSpecial?_slot (name:=Str.ofString "__next__") ty F.slot_dict_itemiterator_next (wpAny_call_entry F.slot_dict_itemiterator_next ty F.entry_dict_itemiterator_next ?_ (F.args_dict_itemiterator_next_1 _))))
 refine wpAny_bind (wpAny_pure (wpAny_bind (wpAny_bind ?_)))
 first | refine wpAny_bind (wpAny_typeNameOfWhole_itemiter ty (wpAny_pure (wpAny_bind (wpAny_fieldsOf hit rfl ?_)))) | refine wpAny_bind (wpAny_typeNameOf_itemiter ty (wpAny_pure (wpAny_bind (wpAny_fieldsOf hit rfl ?_))))
 rw [own]
 simp only [if_true]
 show wpAny _ _ (if (Value.ref d == Value.none) = true then _ else _) _ _ _
 rw [if_neg (show ¬ ((Value.ref d == Value.none) = true) from Bool.false_ne_true)]
 refine wpAny_bind (wpAny_pure (wpAny_bind (wpAny_dictEntries en.at_ en.dat ?_)))
 rw [if_neg (by simp)]
 refine wpAny_bind (wpAny_pure (wpAny_bind (wpAny_dictEpoch en.at_ en.dat ?_)))
 rw [if_neg (by simp)]
 refine wpAny_pure ?_
 simp only [show ¬ ((i:Int) < 0) from by omega,if_false,Int.toNat_natCast,Array.getElem?_eq_none hx]
 refine wpAny_bind ?_
 first | refine wpAny_bind (wpAny_typeNameOfWhole_itemiter ty (wpAny_pure ?_)) | refine wpAny_bind (wpAny_typeNameOf_itemiter ty (wpAny_pure ?_))
 show wpAny _ _ (setField (.ref it) 2 .none >>= _) _ _ s
 refine wpAny_bind (wpAny_setField hit rfl (by simp) (show wpAny _ _ (newExc (.type "StopIteration") [] >>= _) _ _ _ from wpAny_bind ?_))
 simp only [newExc,newTuple]
 refine wpAny_bind (wpAny_newObj_type (wpAny_bind (m:=firstArgMember _ _) (wpAny_of_eq (a:=Value.none) (by first | rfl | (simp only [firstArgMember]; rfl)) (wpAny_newObj_type ?_ (by size_fits)))) (by size_fits))
 simp only [raiseNew]
 refine wpAny_bind (wpAny_handled ?_)
 rw [show A.in1.handled = none from hh]
 refine wpAny_bind (wpAny_pure (wpAny_throw ?_))
 refine wpAny_bind (wpAny_isInstance (b:=true) (T:="StopIteration") ⟨_,Heap.get?_push_size _ rfl,rfl⟩ isSubtype_stop ?_)
 exact wpAny_pure (hQ _ (((Heap.SameBut.update ..).extBut.push _).push _))
theorem As:entryFor table "dict_itemiterator.__iter__" = some Builtin.«dict_keyiterator.__iter__»:=entryFor_alias (id':="dict_keyiterator.__iter__") (by kernel_rfl) rfl (by decide +kernel) (by kernel_rfl)
theorem xD {Q:Value → Shared → Prop} (hit:IsItemIter s.heap it d i es.size ep ok ov) (h:Q (.ref it) s):wpAny (model prog w) A (pyIter (.ref it)) Q E s:=by
 have ty:s.TypeIs (.ref it) "dict_itemiterator":=⟨_,hit,rfl⟩
 refine wpAny_pyIter_slot ty F.slot_dict_itemiterator_iter (wpAny_call_entry F.slot_dict_itemiterator_iter ty As ?_ (F.args_dict_itemiterator_iter_1 _))
 show wpAny _ _ (ret (Value.ref it)) _ _ s
 exact wpAny_pure ⟨_,rfl,"dict_itemiterator",_,ty,F.slot_dict_itemiterator_next.lookup,h⟩
end
section
variable {σ:L2.St} {a:Addr} {o1 o2:HO}
theorem aG.ghost (I:aG X pins σ H s) (h1:H a = some o1) (nown:∀ x,o1 ≠ .own x) (ntup:∀ xs,o1 ≠ .tup xs) (ntbl:∀ ps,o1 ≠ .tbl ps) (nf:∀ o u,X.H₀ a ≠ some (.frz o u)) (new:cg X.prog X.w (upd H a o2) s.heap a o2) :
  aG X pins σ (upd H a o2) s:=by
 have ne:∀ b,H b = none → b ≠ a:=fun b e z=>by rw [z,h1] at e; cases e
 refine ⟨I.ok,I.os,I.bare,⟨I.base.keep,I.base.slot,fun b o e n hx=>?_,I.base.there,fun b xs e=>?_,fun b o u e=>?_,fun b ps e=>?_⟩,I.loc,I.cell,?_,fun x c e=>?_,fun p hp=>?_,fun b o e=>?_,I.len⟩
 ·have q:=I.base.free b o e n hx
  rw [am (ne b q)]; exact q
 ·have q:=I.base.tups b xs e
  rw [am fun z=>by rw [z,h1] at q; exact ntup xs (Option.some.inj q)]; exact q
 ·have q:=I.base.frzs b o u e
  rw [am fun z=>nf o u (by rw [← z]; exact e)]; exact q
 ·obtain ⟨more,q⟩:=I.base.tbls b ps e
  exact ⟨more,by rw [am fun z=>by rw [z,h1] at q; exact ntbl _ (Option.some.inj q)]; exact q⟩
 ·rw [am (ne _ I.free)]; exact I.free
 ·rw [am (ne _ (I.freeC x c e))]; exact I.freeC x c e
 ·obtain ⟨p1,p2,p3⟩:=I.pin p hp
  exact ⟨p1,by rw [am (ne _ p2)]; exact p2,p3⟩
 ·by_cases z:b = a
  ·subst z
   rw [aC] at e; cases e
   exact new
  ·rw [am z] at e
   refine (I.hok b o e).stay (fun _ _ _ q=>q) (fun c q=>?_) fun c xs q=>?_
   ·rw [am fun w=>by rw [w,h1] at q; exact nown _ (Option.some.inj q)]; exact q
   ·rw [am fun w=>by rw [w,h1] at q; exact ntup _ (Option.some.inj q)]; exact q
def oV:HO → Bool
 | .dK _=>true
 | .dT _=>true
 | _=>false
theorem ud {u:HO} (h:oV u = true):(∀ x,u ≠ .own x) ∧ (∀ xs,u ≠ .tup xs) ∧ (∀ ps,u ≠ .tbl ps) ∧ ∀ o w,u ≠ .frz o w:=by
 cases u <;> first | (cases h; done) | exact ⟨fun _ z=>(nomatch z),fun _ z=>(nomatch z),fun _ z=>(nomatch z),fun _ _ z=>(nomatch z)⟩
theorem aG.freeze {u:HO} {ob:Obj} (I:aG X pins σ H s) (hu:oV u = true) (h1:H a = some u) (ho:s.heap.get? a = some ob):aG X pins σ (upd H a (.frz ob u)) s ∧ ∀ o w,X.H₀ a ≠ some (.frz o w):=by
 obtain ⟨n1,n2,n3,n4⟩:=ud hu
 have nf:∀ o w,X.H₀ a ≠ some (.frz o w):=fun o w e=>by
  have:=I.base.frzs a o w e
  rw [h1] at this
  exact n4 o w (Option.some.inj this)
 refine ⟨I.ghost h1 n1 n2 n3 nf ⟨ho,(I.hok a u h1).stay (fun _ _ _ q=>q) (fun c q=>?_) fun c xs q=>?_⟩,nf⟩
 ·rw [am fun w=>by rw [w,h1] at q; exact n1 _ (Option.some.inj q)]; exact q
 ·rw [am fun w=>by rw [w,h1] at q; exact n2 _ (Option.some.inj q)]; exact q
theorem aG.thaw {u:HO} {ob:Obj} (I:aG X pins σ H s) (h1:H a = some (.frz ob u)) (nf:∀ o w,X.H₀ a ≠ some (.frz o w)):aG X pins σ (upd H a u) s:=by
 refine I.ghost h1 (fun _ z=>nomatch z) (fun _ z=>nomatch z) (fun _ z=>nomatch z) nf ?_
 obtain ⟨_,ok⟩:=I.hok a _ h1
 refine ok.stay (fun _ _ _ q=>q) (fun c q=>?_) fun c xs q=>?_
 ·rw [am fun w=>by rw [w,h1] at q; cases q]; exact q
 ·rw [am fun w=>by rw [w,h1] at q; cases q]; exact q
end
inductive ju (H:Hp):HO → List (V × V) → Prop where
 | k {kvs:List (bj × V)}:ju H (.dK kvs) (kvs.map fun p=>(kV p.1,p.2))
 | t {kvs:List (List bj × V)} {prs:List (V × V)}:Paired (fun (p:List bj × V) (q:V × V)=>(∃ b,q.1 = .ref b ∧ H b = some (.tup (p.1.map kV))) ∧ p.2 = q.2) kvs prs → ju H (.dT kvs) prs
structure Gg (ob:Obj) (es:Array DictEntry) (ep:Nat) (prs:List (V × V)):Prop where
 ex:ob.ExactDict
 dat:ob.data = .dict es ep
 len:es.size = prs.length
 get:∀ (i:Nat) (k v:V),prs[i]? = some (k,v) → ∃ e,es[i]? = some e ∧ aO k e.key ∧ aO v e.val
theorem CU {k:bj} {u:Value} (h:(aU prog w).is k u = true):aO (kV k) u:=by
 cases k with
 | inl n =>
  have h:Value.isInt n u = true:=h
  cases u <;> simp [Value.isInt] at h
  exact ⟨_,by rw [h]⟩
 | inr x =>
  have h:Value.isStrOf x u = true:=h
  cases u <;> simp [Value.isStrOf,Value.isStr] at h
  exact ⟨_,by rw [h]⟩
theorem At {kvs:List (bj × V)} {vs:List (bj × Value)} (r:KV kvs vs) {l:List DictEntry} (p:Pairs (aU prog w) l vs):l.length = kvs.length ∧ ∀ (i:Nat) (k v:V),(kvs.map fun p=>(kV p.1,p.2))[i]? = some (k,v) → ∃ e,l[i]? = some e ∧ aO k e.key ∧ aO v e.val:=by
 induction r generalizing l with
 | nil=>cases p; exact ⟨rfl,fun i k v e=>by simp at e⟩
 | @cons x q xs qs h t ih =>
  cases p with
  | @cons e _ es _ h1 h2 p =>
   obtain ⟨l1,l2⟩:=ih p
   refine ⟨by simp [l1],fun i k v e'=>?_⟩
   cases i with
   | zero =>
    simp at e'
    obtain ⟨rfl,rfl⟩:=e'
    refine ⟨e,rfl,?_,by rw [h2]; exact h.2⟩
    have h0:=h1
    rw [← h.1] at h0
    exact CU h0
   | succ i =>
    simp only [List.map_cons,List.getElem?_cons_succ] at e' ⊢
    exact l2 i k v e'
theorem Au {h:Heap} {a:Addr} {u:HO} (ok:cg P w H h a u) (hu:oV u = true):∃ ob es ep prs,h.get? a = some ob ∧ Gg ob es ep prs ∧ ju H u prs ∧ (a == sysModules) = false:=by
 cases u with
 | dK kvs =>
  obtain ⟨z,hd,vs,r,o,es,ep,e1,e2,e3,e4,e5,e6⟩:=ok
  obtain ⟨l1,l2⟩:=At r e5
  refine ⟨o,es,ep,_,e1,⟨e2,e3,by rw [List.length_map,← l1]; simp,fun i k v q=>?_⟩,.k,hd⟩
  obtain ⟨e,q1,q2⟩:=l2 i k v q
  exact ⟨e,by simpa using q1,q2⟩
 | dT kvs =>
  obtain ⟨z,hd,xs,r,o,es,ep,e1,e2,e3,e4,e5⟩:=ok
  have key:∀ {l:List (List bj × V)} {m:List (List bj × Addr × Value)},Paired (fun (p:List bj × V) (q:List bj × Addr × Value)=>p.1 = q.1 ∧ H q.2.1 = some (.tup (p.1.map kV)) ∧ aO p.2 q.2.2) l m →
    ∃ prs:List (V × V),Paired (fun (p:List bj × V) (q:V × V)=>(∃ b,q.1 = .ref b ∧ H b = some (.tup (p.1.map kV))) ∧ p.2 = q.2) l prs ∧ prs.length = m.length ∧ ∀ (i:Nat) (k v:V),prs[i]? = some (k,v) → ∃ x,m[i]? = some x ∧ k = .ref x.2.1 ∧ aO v x.2.2:=by
   intro l m pr
   induction pr with
   | nil=>exact ⟨[],.nil,rfl,fun i k v e=>by simp at e⟩
   | @cons p q ps qs h t ih =>
    obtain ⟨prs,i1,i2,i3⟩:=ih
    refine ⟨(.ref q.2.1,p.2) :: prs,.cons ⟨⟨q.2.1,rfl,h.2.1⟩,rfl⟩ i1,by simp [i2],fun i k v e=>?_⟩
    cases i with
    | zero =>
     simp at e
     obtain ⟨rfl,rfl⟩:=e
     exact ⟨q,rfl,rfl,h.2.2⟩
    | succ i =>
     simp only [List.getElem?_cons_succ] at e ⊢
     exact i3 i k v e
  obtain ⟨prs,i1,i2,i3⟩:=key r
  have hsz:es.size = xs.length:=by rw [← Array.length_toList,e4,List.length_map]
  refine ⟨o,es,ep,prs,e1,⟨e2,e3,by rw [hsz,i2],fun i k v q=>?_⟩,.t i1,hd⟩
  obtain ⟨x,q1,rfl,q3⟩:=i3 i k v q
  refine ⟨entryOfKey (tupleKind (aU P w)) x,?_,rfl,q3⟩
  rw [← Array.getElem?_toList,e4,List.getElem?_map,q1]; rfl
 | _=>cases hu
def KF (a:Addr) (ob:Obj) (u:HO) (prs:List (V × V)):It :=
 ⟨fun i H=>H a = some (.frz ob u) ∧ i < prs.length,fun i H x H'=>∃ T k v,H T = none ∧ prs[i]? = some (k,v) ∧ x = .ref T ∧ H' = upd H T (.tup [k,v]),fun i H=>H a = some (.frz ob u) ∧ prs.length ≤ i⟩
def KG (a:Addr) (ob:Obj) (u:HO) (prs:List (V × V)):It :=
 ⟨fun i H=>H a = some (.frz ob u) ∧ i < prs.length,fun i H x H'=>H' = H ∧ ∃ v,prs[i]? = some (x,v),fun i H=>H a = some (.frz ob u) ∧ prs.length ≤ i⟩
section
theorem xE {elts:List Expr} {kk:Nat} {a it:Addr} {ob:Obj} {u:HO} {es:Array DictEntry} {ep:Nat} {prs:List (V × V)} (op:Gg ob es ep prs) :
  vi P w K (.Tuple elts kk pos) (KF a ob u prs) [it] it (fun i h=>∃ ok ov,IsItemIter h it a i es.size ep ok ov) where
 mem:=by simp
 obj:=fun i h st b hb=>by
  have e:b = it:=by simpa using hb
  subst e
  obtain ⟨ok,ov,e⟩:=st
  exact ⟨_,e,fun v z=>by cases z⟩
 keep:=fun i h h' st k=>by
  obtain ⟨ok,ov,e⟩:=st
  exact ⟨ok,ov,k it (by simp) _ e⟩
 item:=by
  intro X hP hw hK hc i pins s σ H E I hf st hg
  subst hP hw hK
  obtain ⟨hz,hi⟩:=hg
  obtain ⟨ok,ov,st⟩:=st
  obtain ⟨hob,_⟩:=I.hok a _ hz
  obtain ⟨⟨k,v⟩,hp⟩:∃ p,prs[i]? = some p:=⟨prs[i],by simp [hi]⟩
  obtain ⟨e,he,rk,rv⟩:=op.get i k v hp
  obtain ⟨f0,f1,f2,f3,f4,f5⟩:=hf it (by simp)
  have hne:a ≠ it:=fun z=>by rw [z,f0] at hz; cases hz
  have lt:it < s.heap.objs.size:=Heap.lt_size st
  refine CT st ⟨hob,op.ex,op.dat⟩ he fun h1 o1 t1 z1 k1=>⟨_,rfl,?_⟩
  refine wpAny_letOwnedTupleGo_items (s:={ s with heap:=h1 }) o1 fun h2 i2 s2=>?_
  have hT:=I.hok.fresh (Nat.le_refl s.heap.objs.size)
  have kk:∀ b o,b ≠ it → h1.get? b = some o → h2.get? b = some o:=fun b o n q=>(s2.2 b n).trans q
  have tT:h2.get? s.heap.objs.size = some { cls:=.type "tuple",data:=.seq #[e.key,e.val] }:=kk _ _ (Nat.ne_of_gt lt) t1
  have Il:aG X pins σ (upd H s.heap.objs.size (.tup [k,v])) { s with heap:=s.heap.push { cls:=.type "tuple",data:=.seq #[e.key,e.val] } } :=
   I.laid (t':=s.toks) (fun b o q=>Heap.get?_push_of_some _ q) (Nat.le_refl _) ⟨by show 2 ≤ sizeLine; decide,[e.key,e.val],.cons rk (.cons rv .nil),⟨_,Heap.get?_push_size _ rfl,rfl,_,rfl⟩⟩
  have Ic:aG X pins σ (upd H s.heap.objs.size (.tup [k,v])) { s with heap:=h2 }:=by
   refine aG.turned (s:={ s with heap:=s.heap.push { cls:=.type "tuple",data:=.seq #[e.key,e.val] } }) (t':=s.toks) (h':=h2) (it:=it) Il (fun b o n q=>?_) (by rw [am (Nat.ne_of_lt lt)]; exact f0) f1 f3 f4 f5
   rcases Heap.get?_push_cases q with ⟨z1,z2⟩ | q
   ·subst z1 z2
    exact tT
   ·exact kk b o n (k1 b o n q)
  exact ⟨.ref s.heap.objs.size,_,Ic,rfl,⟨_,k,v,hT,hp,rfl,rfl⟩,⟨_,_,i2⟩,fun b hb=>by
   have:b = it:=by simpa using hb
   subst this
   rw [am (Nat.ne_of_lt lt)]; exact f0⟩
 done:=by
  intro X hP hw hK hc i pins s σ H E I hf st hg
  subst hP hw hK
  obtain ⟨hz,hi⟩:=hg
  obtain ⟨ok,ov,st⟩:=st
  obtain ⟨hob,_⟩:=I.hok a _ hz
  obtain ⟨f0,f1,f2,f3,f4,f5⟩:=hf it (by simp)
  exact Fb (I.ok.hd hc) st ⟨hob,op.ex,op.dat⟩ (by rw [op.len]; exact hi) fun h' eb=>⟨rfl,I.turned (t':=s.toks) (fun b o hb e=>eb b o hb e) f0 f1 f3 f4 f5⟩
 self:=fun _ i _ _ _ st h=>by
  obtain ⟨ok,ov,st⟩:=st
  exact xD st h
def xF (H₀:Hp) (td:TE):TI:=fun σ H R=>td σ H fun x H1=>∃ a u,x = .ref a ∧ H1 a = some u ∧ oV u = true ∧ ∀ ob prs,ju H1 u prs → (∀ o w,H₀ a ≠ some (.frz o w)) → R (KF a ob u prs) (upd H1 a (.frz ob u))
theorem v4 {elts:List Expr} {kk:Nat} {tpos apos cpos:Pos} {o:Expr} {td:TE} (ho:PE X o td) (hbase:attributeBase o "items" X.env (eval o X.env) = eval o X.env:=by with_unfolding_all rfl) (hline:(apos.endLine == cpos.line) = true:=by with_unfolding_all rfl) :
  PI X (.Tuple elts kk tpos) (.Call (.Attribute o "items" apos) [] [] cpos) (xF X.H₀ td):=by
 intro pins s σ H R I h
 refine wpAny_Call_method0_late hbase hline (bw (ho pins s σ H _ I h) fun v s1 ⟨x,H1,I1,r1,a,u,ex,ha,hu,q⟩=>?_)
 subst ex
 cases r1
 obtain ⟨ob,es,ep,prs,hob,op,pr,hsys⟩:=Au (I1.hok a u ha) hu
 have ty:s1.TypeIs (.ref a) "dict":=⟨ob,hob,op.ex.1⟩
 refine ⟨"dict","dict.items",PySem.F.plainAttrs_dict,PySem.F.slot_dict_items,PySem.F.type_dict_items,ty,fun b e=>by cases e; exact ⟨ob,hob,op.ex.2.1⟩,Calls.callWith_builtin rfl (PySem.evalArgs_none ?_)⟩
 refine call_meetsIn PySem.F.slot_dict_items ty PySem.F.entry_dict_items (PySem.F.args_dict_items_1 _) (CQ hsys) ⟨ty,?_⟩
 have I2:aG X pins σ H1 { s1 with heap:=s1.heap.push { cls:=.type "dict_items",data:=.fields #[.ref a] } }:=I1.kept (t':=s1.toks) fun b o e=>Heap.get?_push_of_some _ e
 have hob2:(s1.heap.push { cls:=.type "dict_items",data:=.fields #[.ref a] }).get? a = some ob:=Heap.get?_push_of_some _ hob
 refine CS (s:={ s1 with heap:=s1.heap.push { cls:=.type "dict_items",data:=.fields #[.ref a] } }) ⟨_,Heap.get?_push_size _ rfl,rfl,rfl⟩ ⟨hob2,op.ex,op.dat⟩ ?_
 obtain ⟨If,nf⟩:=I2.freeze hu ha hob2
 have I3:=If.kept (h':=(s1.heap.push { cls:=.type "dict_items",data:=.fields #[.ref a] }).push { cls:=.type "dict_itemiterator",data:=.fields #[.none,.bool false,.ref a,.int 0 0,.int es.size 0,.int ep 0,.none,.none] }) (t':=s1.toks) fun b o e=>Heap.get?_push_of_some _ e
 refine ⟨_,[(s1.heap.push { cls:=.type "dict_items",data:=.fields #[.ref a] }).objs.size],_,_,_,rfl,I3,xE op,⟨.none,.none,Heap.get?_push_size _ rfl⟩,fun b hb=>?_,q ob prs pr nf⟩
 have e:b = (s1.heap.push { cls:=.type "dict_items",data:=.fields #[.ref a] }).objs.size:=by simpa using hb
 subst e
 exact If.fpOk (Nat.le_refl _) (If.hok.fresh (Nat.le_refl _))
theorem Av {tg:Expr} {a it:Addr} {ob:Obj} {kvs:List (bj × V)} {vs:List (bj × Value)} {ep:Nat} (hk:KV kvs vs) (op:∃ es,ob.ExactDict ∧ ob.data = .dict es ep ∧ KeysOf (aU P w) es ∧ Pairs (aU P w) es.toList vs ∧ (vs.map (·.1)).Nodup) :
  vi P w K tg (KG a ob (.dK kvs) (kvs.map fun p=>(kV p.1,p.2))) [it] it (fun i h=>h.IsKeyIter it a i vs.length ep) where
 mem:=by simp
 obj:=fun i h st b hb=>by
  have e:b = it:=by simpa using hb
  subst e
  obtain ⟨o,e,c,d⟩:=st
  exact ⟨o,e,fun v z=>by rw [d] at z; cases z⟩
 keep:=fun i h h' st k=>st.at fun o e=>k it (by simp) o e
 item:=by
  intro X hP hw hK hc i pins s σ H E I hf st hg
  subst hP hw hK
  obtain ⟨hz,hi⟩:=hg
  obtain ⟨hob,_⟩:=I.hok a _ hz
  obtain ⟨es,op⟩:=op
  rw [List.length_map] at hi
  have hl:=Paired.length hk
  have hv:i < vs.length:=by omega
  have hx:vs[i]? = some (vs[i].1,vs[i].2):=List.getElem?_eq_getElem hv
  obtain ⟨f0,f1,f2,f3,f4,f5⟩:=hf it (by simp)
  refine wpAny_pyNext_dict_item st ⟨ob,es,hob,op⟩ hx fun key h' hkey st' sb=>?_
  have I1:aG X pins σ H { s with heap:=h' }:=I.turned (t':=s.toks) (fun b o hb e=>(sb.2 b hb).trans e) f0 f1 f3 f4 f5
  obtain ⟨o,e,c,d⟩:=id st'
  have kp:∀ {l:List (bj × V)} {m:List (bj × Value)} (r:KV l m) (i:Nat) (h1:i < l.length) (h2:i < m.length),l[i].1 = m[i].1:=by
   intro l m r
   unfold KV at r
   induction r with
   | nil=>intro i h1; simp at h1
   | cons h t ih =>
    intro i h1 h2
    cases i with
    | zero=>exact h.1
    | succ i=>exact ih i (by simpa using h1) (by simpa using h2)
  refine ⟨key,rfl,yk (s:={ s with heap:=h' }) e c d (by decide) ⟨kV kvs[i].1,H,I1,?_,⟨rfl,kvs[i].2,by simp [hi]⟩,st',fun b hb=>(hf b hb).1⟩⟩
  rw [kp hk i hi (by omega)]
  exact CU hkey
 done:=by
  intro X hP hw hK hc i pins s σ H E I hf st hg
  subst hP hw hK
  obtain ⟨hz,hi⟩:=hg
  obtain ⟨hob,_⟩:=I.hok a _ hz
  obtain ⟨es,op⟩:=op
  rw [List.length_map] at hi
  have hl:=Paired.length hk
  obtain ⟨f0,f1,f2,f3,f4,f5⟩:=hf it (by simp)
  exact wpAny_pyNext_dict_end (I.ok.hd hc) st ⟨ob,es,hob,op⟩ (by simp; omega) fun h' eb=>⟨rfl,I.turned (t':=s.toks) (fun b o hb e=>eb b o hb e) f0 f1 f3 f4 f5⟩
 self:=fun _ _ _ _ _ st h=>wpAny_pyIter_keyiter st h
def CV (H₀:Hp) (td:TE):TI:=fun σ H R=>td σ H fun x H1=>∃ a kvs,x = .ref a ∧ H1 a = some (.dK kvs) ∧ ∀ ob,(∀ o w,H₀ a ≠ some (.frz o w)) → R (KG a ob (.dK kvs) (kvs.map fun p=>(kV p.1,p.2))) (upd H1 a (.frz ob (.dK kvs)))
theorem Fc {tg o:Expr} {td:TE} (ho:PE X o td):PI X tg o (CV X.H₀ td):=by
 intro pins s σ H R I h
 refine bw (ho pins s σ H _ I h) fun v s1 ⟨x,H1,I1,r1,a,kvs,ex,ha,q⟩=>?_
 subst ex
 cases r1
 obtain ⟨z,hd,vs,r,ob,es,ep,e1,op⟩:=I1.hok a _ ha
 refine wpAny_pyIter_dict hd ⟨ob,es,e1,op⟩ ?_
 obtain ⟨If,nf⟩:=I1.freeze (u:=.dK kvs) rfl ha e1
 have I3:=If.kept (h':=s1.heap.push { cls:=.type "dict_keyiterator",data:=.fields #[.ref a,.int 0 0,.int vs.length 0,.int ep 0] }) (t':=s1.toks) fun b o e=>Heap.get?_push_of_some _ e
 refine ⟨_,[s1.heap.objs.size],_,_,_,rfl,I3,Av r ⟨es,op⟩,⟨_,Heap.get?_push_size _ rfl,rfl,rfl⟩,fun b hb=>?_,q ob nf⟩
 have e:b = s1.heap.objs.size:=by simpa using hb
 subst e
 exact If.fpOk (Nat.le_refl _) (If.hok.fresh (Nat.le_refl _))
end
def Aw (H₀:Hp) (Q:Hp → Prop) (H:Hp):Prop:=∃ a ob u,H a = some (.frz ob u) ∧ (∀ o w,H₀ a ≠ some (.frz o w)) ∧ Q (upd H a u)
theorem PS.thaw {t:TS} (h:PS X st t):PS X st (fun D σ H=>t { D with nx:=fun σ' H'=>Aw X.H₀ (D.nx σ') H' } σ H):=by
 intro pins s σ H D I q
 refine bw (h pins s σ H _ I q) fun f s1 q1=>?_
 cases f with
 | next =>
  obtain ⟨σ',H',I',a,ob,u,h1,nf,q2⟩:=q1
  exact ⟨σ',_,I'.thaw h1 nf,q2⟩
 | ret v=>exact q1
 | brk=>exact q1
 | cont=>exact q1
end L2
namespace RB
open PySem L2
def HJ (S:aT) (x:AV):Option (Nat × aT):=match x with
 | .ref n=>match S.t.get n with
  | some (.dk kvs)=>some (n,S.set n (.fz (.dk kvs)))
  | some (.dt kvs)=>some (n,S.set n (.fz (.dt kvs)))
  | _=>none
 | _=>none
def HK (S:aT) (x:AV):Option (Nat × aT):=match x with
 | .ref n=>match S.t.get n with
  | some (.dk kvs)=>some (n,S.set n (.fz (.dk kvs)))
  | _=>none
 | _=>none
def ze (S:aT) (n:Nat):Option aT:=match S.t.get n with
 | some (.fz o)=>some (S.set n o)
 | _=>none
def CW (n:Nat) (k:eD → aT → Bool):eD → aT → Bool:=fun σ S=>match ze S n with
 | some S1=>k σ S1
 | none=>false
def v5 (n:Nat) (k:AV → aT → Bool):AV → aT → Bool:=fun v S=>match ze S n with
 | some S1=>k v S1
 | none=>false
def Ax (keys:Bool) (S:aT) (x:AV):Option (Nat × aT):=match keys with
 | true=>HK S x
 | false=>HJ S x
def CY (keys:Bool) (n:Nat):xy:=match keys with
 | true=>.dks n
 | false=>.dit n
def CZ (fuel:Nat) (keys:Bool) (a:BE) (t:BG) (s:BS):BS:=fun d σ S=>a σ S fun x S1=>match Ax keys S1 x with
 | some (n,S2)=>Ai t s ⟨CW n d.nx,d.rt,d.bk,d.ct⟩ (CY keys n) fuel 0 σ S2
 | none=>false
def HL (fuel:Nat) (keys:Bool) (ix:List (Option Nat)) (a:BE) (t:BG) (tt:BT) (te:BE):BE:=fun σ S k=>a σ S fun x S1=>match Ax keys S1 x with
 | some (n,S2)=>Hz (vb ix σ) t tt te (v5 n k) (CY keys n) fuel 0 [] S2
 | none=>false
section
variable {S:aT}
theorem oW {ak:AV} {k:bj} (h:gG ak k):aY F y ρ H ak (kV k):=by
 cases ak with
 | int s lo hi=>cases s with
  | true=>exact h.elim
  | false=>obtain ⟨e,rfl⟩:=h; exact ⟨lo,rfl,Int.le_refl _,by omega⟩
 | str i=>obtain ⟨x,e,rfl⟩:=h; exact ⟨x,e,rfl⟩
 | _=>exact h.elim
theorem oX:∀ {ak:AV} {ks:List bj},fY ak ks → z9 F y ρ H ak (ks.map kV)
 | .tn,_,h=>by cases h; rfl
 | .tc a b,_,⟨k,r,e,h1,h2⟩=>by subst e; exact ⟨kV k,r.map kV,rfl,oW h1,oX h2⟩
 | .non,_,h=>h.elim
 | .bl _,_,h=>h.elim
 | .int _ _ _,_,h=>h.elim
 | .str _,_,h=>h.elim
 | .ref _,_,h=>h.elim
 | .ext _,_,h=>h.elim
theorem Ay {ak:AV} {ks:List bj} {b:Addr} (h:fY ak ks) (hb:H b = some (.tup (ks.map kV))):aY F y ρ H ak (.ref b):=by
 have t:=oX (F:=F) (y:=y) (ρ:=ρ) (H:=H) h
 cases ak with
 | tn=>cases h; exact ⟨b,rfl,hb⟩
 | tc p q =>
  obtain ⟨w,ws,e,h1,h2⟩:=t
  exact ⟨b,w,ws,rfl,by rw [hb,e],h1,h2⟩
 | _=>exact h.elim
theorem zf (C:aM g F y ρ S H) {ax:AV} {x:V} (rx:aY F y ρ H ax x) {n:Nat} {S2:aT} (h:HJ S ax = some (n,S2)):∃ a u,x = .ref a ∧ ax = .ref n ∧ ρ[n]? = some a ∧ H a = some u ∧ oV u = true ∧
  ∀ ob,aD F y ρ H y ρ (upd H a (.frz ob u)) ∧ aM g F y ρ S2 (upd H a (.frz ob u)):=by
 cases ax with
 | ref m =>
  unfold HJ at h
  dsimp only at h
  cases q:S.t.get m with
  | none=>rw [q] at h; cases h
  | some o =>
   rw [q] at h
   cases o with
   | dk kvs =>
    cases h
    obtain ⟨a,ks,rfl,hρ,ha,pr⟩:=C.dk rx q
    refine ⟨a,.dK ks,rfl,rfl,hρ,ha,rfl,fun ob=>?_⟩
    have st:aD F y ρ H y ρ (upd H a (.frz ob (.dK ks))):=aD.set C hρ ha
    exact ⟨st,C.set hρ ha (o:=.fz (.dk kvs)) (ob:=⟨ob,_,rfl,ks,rfl,a0 (fun _ _ z=>⟨z.1,aY.mono st z.2⟩) pr⟩)⟩
   | dt kvs =>
    cases h
    obtain ⟨a,ks,rfl,hρ,ha,pr⟩:=C.dt rx q
    refine ⟨a,.dT ks,rfl,rfl,hρ,ha,rfl,fun ob=>?_⟩
    have st:aD F y ρ H y ρ (upd H a (.frz ob (.dT ks))):=aD.set C hρ ha
    exact ⟨st,C.set hρ ha (o:=.fz (.dt kvs)) (ob:=⟨ob,_,rfl,ks,rfl,a0 (fun _ _ z=>⟨z.1,aY.mono st z.2⟩) pr⟩)⟩
   | _=>cases h
 | _=>cases h
theorem Fd (C:aM g F y ρ S H) {ax:AV} {x:V} (rx:aY F y ρ H ax x) {n:Nat} {S2:aT} (h:HK S ax = some (n,S2)):∃ a ks,x = .ref a ∧ ax = .ref n ∧ ρ[n]? = some a ∧ H a = some (.dK ks) ∧
  ∀ ob,aD F y ρ H y ρ (upd H a (.frz ob (.dK ks))) ∧ aM g F y ρ S2 (upd H a (.frz ob (.dK ks))):=by
 cases ax with
 | ref m =>
  unfold HK at h
  dsimp only at h
  cases q:S.t.get m with
  | none=>rw [q] at h; cases h
  | some o =>
   rw [q] at h
   cases o with
   | dk kvs =>
    cases h
    obtain ⟨a,ks,rfl,hρ,ha,pr⟩:=C.dk rx q
    refine ⟨a,ks,rfl,rfl,hρ,ha,fun ob=>?_⟩
    have st:aD F y ρ H y ρ (upd H a (.frz ob (.dK ks))):=aD.set C hρ ha
    exact ⟨st,C.set hρ ha (o:=.fz (.dk kvs)) (ob:=⟨ob,_,rfl,ks,rfl,a0 (fun _ _ z=>⟨z.1,aY.mono st z.2⟩) pr⟩)⟩
   | _=>cases h
 | _=>cases h
theorem Fe {u:HO} {prs:List (V × V)} {kvs:List (AV × AV)} {o:AO} (hp:ju H u prs) (ho:fV F y ρ H g o u) (e:o = .dk kvs ∨ o = .dt kvs):Paired (fun p q=>aY F y ρ H p.1 q.1 ∧ aY F y ρ H p.2 q.2) kvs prs:=by
 cases hp with
 | @k ks =>
  rcases e with rfl | rfl
  ·obtain ⟨ks',e,pr⟩:=ho
   cases e
   induction pr with
   | nil=>exact .nil
   | cons h t ih=>exact .cons ⟨oW h.1,h.2⟩ ih
  ·obtain ⟨_,e,_⟩:=ho; cases e
 | @t ks prs pp =>
  rcases e with rfl | rfl
  ·obtain ⟨_,e,_⟩:=ho; cases e
  ·obtain ⟨ks',e,pr⟩:=ho
   cases e
   induction pr generalizing prs with
   | nil=>cases pp; exact .nil
   | cons h t ih =>
    cases pp with
    | cons h' t' =>
     obtain ⟨⟨b,e1,e2⟩,e3⟩:=h'
     refine .cons ⟨?_,?_⟩ (ih t')
     ·rw [e1]; exact Ay h.1 e2
     ·rw [← e3]; exact h.2
theorem oY {H H':Hp} (ht:∀ b vs,H b = some (.tup vs) → H' b = some (.tup vs)) {u:HO} {prs:List (V × V)} (h:ju H u prs):ju H' u prs:=by
 cases h with
 | k=>exact .k
 | t pp=>exact .t (Paired.mapP pp fun _ _ ⟨⟨b,e1,e2⟩,e3⟩=>⟨⟨b,e1,ht _ _ e2⟩,e3⟩)
theorem jU {α β:Type} {R:α → β → Prop}:∀ {xs:List α} {ys:List β} {i:Nat} {a:α},Paired R xs ys → xs[i]? = some a → ∃ b,ys[i]? = some b ∧ R a b
 | _,_,_,_,.nil,e=>by simp at e
 | _,_,0,_,.cons r _,e=>by simp at e; subst e; exact ⟨_,rfl,r⟩
 | _,_,i + 1,a,.cons _ t,e=>by
  obtain ⟨v,h1,h2⟩:=jU (i:=i) (a:=a) t (by simpa using e)
  exact ⟨v,by simpa using h1,h2⟩
theorem Ff {S1:aT} {n:Nat} {kvs:List (AV × AV)} (h:xz S1 n = some kvs):∃ o,S1.t.get n = some (.fz o) ∧ (o = .dk kvs ∨ o = .dt kvs):=by
 unfold xz at h
 split at h
 ·cases h; exact ⟨_,‹_›,.inl rfl⟩
 ·cases h; exact ⟨_,‹_›,.inr rfl⟩
 ·cases h
theorem zg {a:Addr} {ob:Obj} {u:HO} {prs:List (V × V)} {n:Nat} (hρ:ρ[n]? = some a) (ha:H a = some (.frz ob u)) (hp:ju H u prs) {y1:Option Int} {ρ1:List Addr} {S1:aT} {H1:Hp} (st:aD F y ρ H y1 ρ1 H1) (C1:aM g F y1 ρ1 S1 H1) {kvs:List (AV × AV)} (h:xz S1 n = some kvs) :
  H1 a = some (.frz ob u) ∧ Paired (fun p q=>aY F y1 ρ1 H1 p.1 q.1 ∧ aY F y1 ρ1 H1 p.2 q.2) kvs prs:=by
 have h1:=st.frz a ob u ha
 obtain ⟨o,e,eo⟩:=Ff h
 obtain ⟨o',ho,g1,g2,g3⟩:=C1.at_ n a (st.mem hρ)
 rw [e] at g1; cases g1
 rw [h1] at g2; cases g2
 obtain ⟨ob1,u1,e1,g4⟩:=g3
 cases e1
 exact ⟨h1,Fe (oY st.tup hp) g4 eo⟩
theorem sj {a:Addr} {ob:Obj} {u:HO} {prs:List (V × V)} {n:Nat} (hρ:ρ[n]? = some a) (ha:H a = some (.frz ob u)) (hp:ju H u prs):mJ g F y ρ H (.dit n) (KF a ob u prs):=by
 refine ⟨fun y1 ρ1 S1 H1 i st C1=>?_⟩
 unfold xy.nxt
 dsimp only
 cases q:xz S1 n with
 | none=>exact ⟨fun _ e=>(nomatch e),fun e=>(nomatch e)⟩
 | some kvs =>
  obtain ⟨h1,pr⟩:=zg hρ ha hp st C1 q
  have hl:=Paired.length pr
  dsimp only
  cases q2:kvs[i]? with
  | none =>
   refine ⟨fun _ e=>(nomatch e),fun _=>⟨h1,?_⟩⟩
   have:=List.getElem?_eq_none_iff.mp q2
   omega
  | some p =>
   obtain ⟨ak,av⟩:=p
   obtain ⟨⟨k,v⟩,e2,rk,rv⟩:=jU pr q2
   have hi:=(List.getElem?_eq_some_iff.mp q2).1
   refine ⟨fun av' e=>⟨⟨h1,by omega⟩,fun x H' yx=>?_⟩,fun e=>(nomatch e)⟩
   cases e
   obtain ⟨T,k',v',hT,e3,rfl,rfl⟩:=yx
   rw [e2] at e3; cases e3
   have st2:aD F y1 ρ1 H1 y1 ρ1 (upd H1 T (.tup [k,v])):=aD.lay hT
   exact ⟨st2,C1.lay hT,aY.chain (xs:=[ak,av]) aC (.cons (aY.mono st2 rk) (.cons (aY.mono st2 rv) .nil))⟩
theorem C8 {a:Addr} {ob:Obj} {u:HO} {prs:List (V × V)} {n:Nat} (hρ:ρ[n]? = some a) (ha:H a = some (.frz ob u)) (hp:ju H u prs):mJ g F y ρ H (.dks n) (KG a ob u prs):=by
 refine ⟨fun y1 ρ1 S1 H1 i st C1=>?_⟩
 unfold xy.nxt
 dsimp only
 cases q:xz S1 n with
 | none=>exact ⟨fun _ e=>(nomatch e),fun e=>(nomatch e)⟩
 | some kvs =>
  obtain ⟨h1,pr⟩:=zg hρ ha hp st C1 q
  have hl:=Paired.length pr
  dsimp only
  cases q2:kvs[i]? with
  | none =>
   refine ⟨fun _ e=>(nomatch e),fun _=>⟨h1,?_⟩⟩
   have:=List.getElem?_eq_none_iff.mp q2
   omega
  | some p =>
   obtain ⟨ak,av⟩:=p
   obtain ⟨⟨k,v⟩,e2,rk,rv⟩:=jU pr q2
   have hi:=(List.getElem?_eq_some_iff.mp q2).1
   refine ⟨fun av' e=>⟨⟨h1,by omega⟩,fun x H' yx=>?_⟩,fun e=>(nomatch e)⟩
   cases e
   obtain ⟨rfl,v',e3⟩:=yx
   rw [e2] at e3; cases e3
   exact ⟨.refl,C1,rk⟩
theorem Az {a:Addr} {ob:Obj} {u:HO} {n:Nat} {σa:eD} {σ:L2.St} (hρ:ρ[n]? = some a) (e:H a = some (.frz ob u)) (r:bE g F y ρ H σa σ):bE g F y ρ (upd H a u) σa σ:=by
 have nt:∀ b vs,H b = some (.tup vs) → (upd H a u) b = some (.tup vs):=fun b vs q=>by rw [am fun z=>by rw [z,e] at q; cases q]; exact q
 have mo:Mo y ρ H y ρ (upd H a u):=⟨fun _ h=>h,fun h=>h,nt⟩
 refine ⟨a0 (fun x v hx=>?_) r.v,r.e.mono0 ⟨fun _ h=>h,⟨[],by simp⟩,fun _ h=>.inl h,fun b o q n _=>?_,nt,fun b q=>?_⟩⟩
 ·cases x with
  | none=>trivial
  | some x=>cases v with
   | none=>exact hx
   | some v=>exact aY.monoM mo (av:=x) hx
 ·rw [am fun z=>n (by rw [z]; exact List.mem_of_getElem? hρ)]; exact q
 ·by_cases z:b = a
  ·subst z; rw [aC] at q; cases q
  ·rw [am z] at q; exact q
theorem v6 {a:Addr} {ob:Obj} {u:HO} {av:AV} {v:V} (e:H a = some (.frz ob u)) (r:aY F y ρ H av v):aY F y ρ (upd H a u) av v :=
 aY.monoM ⟨fun _ h=>h,fun h=>h,fun b vs q=>by rw [am fun z=>by rw [z,e] at q; cases q]; exact q⟩ r
theorem ue {a:Addr} {ob:Obj} {u:HO} {n:Nat} {H0 H1:Hp} {y1:Option Int} {ρ1:List Addr} {S1 S2:aT} (hρ:ρ[n]? = some a) (ha:H a = some u) (hu:oV u = true) (st:aD F y ρ (upd H a (.frz ob u)) y1 ρ1 H1) (stf:aD F y ρ H y ρ (upd H a (.frz ob u))) (C1:aM g F y1 ρ1 S1 H1) (h:ze S1 n = some S2) :
  H1 a = some (.frz ob u) ∧ aD F y ρ H y1 ρ1 (upd H1 a u) ∧ aM g F y1 ρ1 S2 (upd H1 a u):=by
 have h1:=st.frz a ob u aC
 obtain ⟨n1,n2,n3,n4⟩:=ud hu
 unfold ze at h
 split at h
 ·rename_i o q
  cases h
  exact ⟨h1,(stf.trans st).thaw (List.mem_of_getElem? hρ) ha n2 n4,C1.thaw (st.mem hρ) h1 q⟩
 ·cases h
end
section
variable {a b c e o tg:Expr} {ba bb bc:BE} {bt:BT} {br:BA} {s1 s2:BS} {body:List Stmt}
theorem zh (fuel:Nat) {elts:List Expr} {kk:Nat} {tpos apos cpos:Pos} {t:BG} (hp:PassesOwn (model X.prog X.w) X.A X.env X.xe) (hc:X.calm = true) (ho:PE X o (up g ba)) (hg:PG X (.Tuple elts kk tpos) (oP g sl t)) (hb:iz X body (dh g s1))
  (hbase:attributeBase o "items" X.env (eval o X.env) = eval o X.env:=by with_unfolding_all rfl) (hline:(apos.endLine == cpos.line) = true:=by with_unfolding_all rfl)
  (hs:∀ x,foldedSetIterable (.Call (.Attribute o "items" apos) [] [] cpos) X.env x = pure x:=by with_unfolding_all (intro _; rfl)) :
  PS X (.For (.Tuple elts kk tpos) (.Call (.Attribute o "items" apos) [] [] cpos) body [] pos) (dh g (CZ fuel false ba t s1)):=by
 refine PS.imp (fun D σ H ⟨F,y,ρ,S,σa,d,C,r,h,p,pr,pb,pc⟩=>?_) (PS.thaw (Bk hp hc (v4 ho hbase hline) hg hb hs))
 refine ay C r h fun y1 ρ1 S1 H1 ax x st C1 r1 rx h1=>?_
 cases q:Ax false S1 ax with
 | none=>simp only [q] at h1; cases h1
 | some m =>
  obtain ⟨n,S2⟩:=m
  simp only [q] at h1
  obtain ⟨a,u,rfl,rfl,hρ,ha,hu,fr⟩:=zf C1 rx q
  refine ⟨a,u,rfl,ha,hu,fun ob prs hprs nf=>?_⟩
  obtain ⟨stf,Cf⟩:=fr ob
  refine vT Cf (bE.mono stf r1) (sj hρ aC (oY stf.tup hprs)) h1 (fun y3 ρ3 S3 H3 σ3 σ4 st3 C3 r3 h3=>?_) ((pr.mono st).mono stf)
  have h3:CW n d.nx σ3 S3 = true:=h3
  unfold CW at h3
  split at h3
  ·rename_i S4 q4
   obtain ⟨t1,t2,t3⟩:=ue (H0:=H1) hρ ha hu st3 stf C3 q4
   obtain ⟨m1,m2,m3,m4⟩:=ud hu
   refine ⟨a,ob,u,t1,nf,p y3 ρ3 S4 _ σ3 σ4 (st.trans t2) t3 ?_ h3⟩
   exact Az (st3.mem hρ) t1 r3
  ·cases h3
theorem C9 (fuel:Nat) (keys:Bool) {t:BG} {tt:BT} {te:BE} {n:Nat} {a:Addr} {ob:Obj} {u:HO} {y y1:Option Int} {ρ ρ1:List Addr} {S2:aT} {H H1:Hp} {k:AV → aT → Bool} {Q:VK} {σ:L2.St} {σa:eD} {J:It} {H₀:Hp}
  (hsl:∀ j ∈ sl,ix[j]? = some none) (st:aD F y ρ H y1 ρ1 H1) (r1:bE g F y1 ρ1 H1 σa σ) (hρ:ρ1[n]? = some a) (ha:H1 a = some u) (hu:oV u = true) (stf:aD F y1 ρ1 H1 y1 ρ1 (upd H1 a (.frz ob u))) (Cf:aM g F y1 ρ1 S2 (upd H1 a (.frz ob u))) (nf:∀ o w,H₀ a ≠ some (.frz o w))
  (so:mJ g F y1 ρ1 (upd H1 a (.frz ob u)) (CY keys n) J) (h1:Hz (vb ix σa) t tt te (v5 n k) (CY keys n) fuel 0 [] S2 = true) (p:jk g F y ρ H k Q):∃ W:Nat → Nat → List V → Hp → Prop,(∃ m,W 0 m [] (upd H1 a (.frz ob u))) ∧ ∀ i m ys H,W i m ys H → ys.length < sizeLine ∧
 ((J.stop i H ∧ ∀ p,H p = none → Aw H₀ (Q (.ref p)) (upd H p (.lst ys))) ∨ (J.go i H ∧ ∀ x H',J.yld i H x H' → oP g sl t x (gS ix σ) H' fun σ2 H2=>L2.xh (gS ix σ) σ2 ∧ fw g tt σ2 H2 fun b H3 =>
  if b = true then up g te σ2 H3 fun y H4=>∃ m',m' < m ∧ W (i + 1) m' (ys ++ [y]) H4 else ∃ m',m' < m ∧ W (i + 1) m' ys H3)):=by
 refine zc (Q:=fun v H'=>Aw H₀ (Q v) H') hsl Cf (bE.mono stf r1) so h1 fun y3 ρ3 S3 H3 av v st3 C3 rv h3=>?_
 unfold v5 at h3
 split at h3
 ·rename_i S4 q4
  obtain ⟨t1,t2,t3⟩:=ue (H0:=H1) hρ ha hu st3 stf C3 q4
  exact ⟨a,ob,u,t1,nf,p y3 ρ3 S4 _ av v (st.trans t2) t3 (v6 t1 rv) h3⟩
 ·cases h3
theorem Fg (fuel:Nat) {t:BG} {tt:BT} {te:BE} {H₀:Hp} (hsl:∀ j ∈ sl,ix[j]? = some none):∀ σ H Q,up g (HL fuel false ix ba t tt te) σ H Q → G5 ix (xF H₀ (up g ba)) (oP g sl t) (fw g tt) (up g te) σ H (fun v H'=>Aw H₀ (Q v) H'):=fun σ H Q ⟨F,y,ρ,S,σa,k,C,r,h,p⟩ =>
 ay C r h fun y1 ρ1 S1 H1 ax x st C1 r1 rx h1=>by
  cases q:Ax false S1 ax with
  | none=>simp only [q] at h1; cases h1
  | some m =>
   obtain ⟨n,S2⟩:=m
   simp only [q] at h1
   obtain ⟨a,u,rfl,rfl,hρ,ha,hu,fr⟩:=zf C1 rx q
   refine ⟨a,u,rfl,ha,hu,fun ob prs hprs nf=>?_⟩
   obtain ⟨stf,Cf⟩:=fr ob
   exact C9 fuel false hsl st r1 hρ ha hu stf Cf nf (sj hρ aC (oY stf.tup hprs)) h1 p
theorem AA (fuel:Nat) (i:Nat) {t:BG} {tt:BT} {te:BE} (hsl:∀ j ∈ sl,ix[j]? = some none) (h:PS X st (ki (G5 ix (xF X.H₀ (up g ba)) (oP g sl t) (fw g tt) (up g te)) (ig i))):PS X st (dh g (aZ (HL fuel false ix ba t tt te) (ah i))) :=
 PS.imp (fun D σ H ⟨F,y,ρ,S,σa,d,C,r,h,p,_⟩=>Fg fuel hsl σ H _ (ay C r h fun y1 ρ1 S1 H1 ax x st C1 r1 rx h1=>p y1 ρ1 S1 H1 _ _ st C1 (dJ r1 rx) h1)) (PS.thaw h)
end
end RB
namespace L2
open PySem PySem.Spec PyProof.Rows
section
variable {sc:Scope} {Nc:List Str}
theorem aG.dcEnd {C D:Addr} {fp:List Addr} {pn:List (Addr × Obj)} {σ':St} {He:Hp} {se:Shared} {vs:List (bj × V)} {its:List (bj × Value)} (I:aG X pins σ H s) (Ie:aG (dn X sc Nc C s H (D :: fp) pn) [] σ' He se)
  (hf:∀ b ∈ D :: fp,d6 X pins H b) (hD:He D = none) (hdat:se.heap.DictOf (aU X.prog X.w) D its) (hv:KV vs its) (hsm:(D == sysModules) = false) (hz:vs.length ≤ sizeLine) :
  aG X pins σ (upd He D (.dK vs)) se:=by
 have hb:Un (vd X.stack) (D :: fp) H He s.heap se.heap:=Ie.base
 have hDn:H D = none:=(hf D List.mem_cons_self).1
 have un:Un (vd X.stack) (D :: fp) H (upd He D (.dK vs)) s.heap se.heap:=by
  have ne:∀ b,b ∉ D :: fp → b ≠ D:=fun b h z=>h (z ▸ List.mem_cons_self)
  have neS:∀ b u,H b = some u → b ≠ D:=fun b u e z=>by subst z; rw [hDn] at e; cases e
  exact ⟨hb.keep,hb.slot,fun b o q n hx=>by rw [am (ne b hx)]; exact hb.free b o q n hx,hb.there,fun b xs q=>by rw [am (neS b _ q)]; exact hb.tups b xs q,fun b o u q=>by rw [am (neS b _ q)]; exact hb.frzs b o u q,
   fun b ps q=>by rw [am (neS b _ q)]; exact hb.tbls b ps q⟩
 have hok:iF X.prog X.w (upd He D (.dK vs)) se.heap:=fun b u e=>by
  by_cases h:b = D
  ·subst h
   rw [aC] at e
   cases e
   exact ⟨hz,hsm,its,hv,hdat⟩
  ·rw [am h] at e
   refine (Ie.hok b u e).stay (fun _ _ _ q=>q) (fun c q=>?_) fun c xs q=>?_
   ·rw [am (by intro z; subst z; rw [hD] at q; cases q)]; exact q
   ·rw [am (by intro z; subst z; rw [hD] at q; cases q)]; exact q
 exact I.call' Ie.os un hok Ie.bare fun b hb=>⟨(hf b hb).2.2.2.1,(hf b hb).2.1,(hf b hb).2.2.2.2.1,(hf b hb).2.2.2.2.2⟩
end
def HM (ix:List (Option Nat)) (wi:TI) (g:TG) (tt:TT) (tk te:TE):TE:=fun σ H Q=>wi σ H fun J H1=>∃ W:Nat → Nat → List (bj × V) → Hp → Prop,(∃ m,W 0 m [] H1) ∧ ∀ i m ys H,W i m ys H → ys.length < sizeLine ∧
 ((J.stop i H ∧ ∀ p,H p = none → Q (.ref p) (upd H p (.dK ys))) ∨ (J.go i H ∧ ∀ x H',J.yld i H x H' → g x (gS ix σ) H' fun σ2 H2=>xh (gS ix σ) σ2 ∧ tt σ2 H2 fun b H3 =>
  if b = true then tk σ2 H3 fun kv H4=>te σ2 H4 fun y H5=>∃ k,kv = kV k ∧ ∃ m',m' < m ∧ W (i + 1) m' (cR ys k y) H5 else ∃ m',m' < m ∧ W (i + 1) m' ys H3))
section
variable {sc:Scope} {Nc:List Str} {kx vx tg iter:Expr} {ifs:List Expr} {wi:TI} {g:TG} {tt:TT} {tk te:TE}
theorem v7 {s₂:Shared} {it:Addr} {fp:List Addr} {tn:Nat → Heap → Prop} {J:It} {H2:Hp} {RR:Value → Addr → Result → Shared → Prop} 
  (hc:X.calm = true) (S:aW X.env.scope X.N sc Nc ix) (hg:∀ C s H ex pn,PG (dn X sc Nc C s H ex pn) tg g) (hif:∀ C s H ex pn,nc (dn X sc Nc C s H ex pn) ifs tt) (hk:∀ C s H ex pn,PE (dn X sc Nc C s H ex pn) kx tk) (he:∀ C s H ex pn,PE (dn X sc Nc C s H ex pn) vx te)
  (I:aG X pins σ H2 s₂) (T:vi X.prog X.w X.K tg J fp it tn) (st:tn 0 s₂.heap) (hf:∀ b ∈ fp,d6 X pins H2 b)
  (W:Nat → Nat → List (bj × V) → Hp → Prop) (h0:∃ m,W 0 m [] H2) (Qe:List (bj × V) → Hp → Prop)
  (turn:∀ i m ys H,W i m ys H → ys.length < sizeLine ∧ ((J.stop i H ∧ Qe ys H) ∨ (J.go i H ∧ ∀ x H',J.yld i H x H' → g x (gS ix σ) H' fun σ2 H2=>xh (gS ix σ) σ2 ∧ tt σ2 H2 fun b H3 =>
   if b = true then tk σ2 H3 fun kv H4=>te σ2 H4 fun y H5=>∃ k,kv = kV k ∧ ∃ m',m' < m ∧ W (i + 1) m' (cR ys k y) H5 else ∃ m',m' < m ∧ W (i + 1) m' ys H3)))
  (hRR:∀ (D C:Addr) (ys:List (bj × V)) (He:Hp) (se:Shared),aG X pins σ (upd He D (.dK ys)) se → He D = none → d6 X pins (upd He D (.dK ys)) C → (∃ m,se.heap.Ns C m) → C ≠ D → Qe ys He → RR (.ref D) C (.ok .next) se) :
  wpAny (model X.prog X.w) X.A newDict (fun acc s₃=>wpAny (model X.prog X.w) X.A (newFunctionEnv sc X.env.globals (eY X.env.cells sc.names []) [] X.env.qual none .none (some X.env)) (fun cenv s₄ =>
   codeAny (model X.prog X.w) X.A (.compStart (.DictComp kx vx [⟨tg,iter,ifs,0⟩] sc pos) 0 (.ref it) acc { cenv with scope:=relabel sc X.env }) (RR acc cenv.locals) s₄) E s₃) E s₂:=by
 refine wpAny_newObj_type (wpAny_newFunctionEnv S.nocell (by intro y hy; simp at hy) (fun h₁ hns₁ hsb₁=>?_) S.kind)
 dsimp only at hns₁ hsb₁ ⊢
 generalize hH2:s₂.heap.push { cls:=.type "dict",dict:=none,data:=.dict #[] } = h3 at hns₁ hsb₁ ⊢
 have hC:h3.objs.size = s₂.heap.objs.size + 1:=by rw [← hH2,Heap.size_push]
 have k3:∀ b o,s₂.heap.get? b = some o → h3.get? b = some o:=fun b o e=>hH2 ▸ Heap.get?_push_of_some _ e
 have gD:h3.DictOf (aU X.prog X.w) s₂.heap.objs.size []:=by rw [← hH2]; exact Heap.DictOf.new s₂.heap
 have hsm:(s₂.heap.objs.size == sysModules) = false:=beq_eq_false_iff_ne.mpr (Ne.symm (Nat.ne_of_lt I.big))
 have I3:aG X pins σ H2 { s₂ with heap:=h3 }:=I.kept (t':=s₂.toks) k3
 have nD:H2 s₂.heap.objs.size = none:=I.hok.fresh (Nat.le_refl _)
 have fD:d6 X pins H2 s₂.heap.objs.size:=I.fpOk (Nat.le_refl _) nD
 have fpsz:∀ b ∈ fp,b < s₂.heap.objs.size:=fun b hb=>by
  obtain ⟨o,e,_⟩:=T.obj 0 _ st b hb
  exact Heap.lt_size e
 have hO:∀ b ∈ s₂.heap.objs.size :: fp,d6 X pins H2 b:=fun b hb=>by
  rcases List.mem_cons.mp hb with e | hb
  ·subst e; exact fD
  ·exact hf b hb
 have k1:∀ b o,h3.get? b = some o → h₁.get? b = some o:=fun b o e=>hsb₁.extBut b o (Nat.ne_of_lt (Heap.lt_size e)) (Heap.get?_push_of_some _ e)
 have I4:aG (dn X sc Nc h3.objs.size { s₂ with heap:=h3 } H2 (s₂.heap.objs.size :: fp) (X.pn ++ pins)) [] (gS ix σ) H2 { s₂ with heap:=h₁,toks:=s₂.toks + ([]:List (Str × Value)).length } :=
  I3.lcStart S hO (fun b hb=>by
   show b < h3.objs.size
   rw [hC]
   rcases List.mem_cons.mp hb with e | hb
   ·rw [e]; exact Nat.lt_succ_self _
   ·exact Nat.lt_succ_of_lt (fpsz b hb)) ⟨_,hns₁⟩ k1
 generalize hXc:dn X sc Nc h3.objs.size { s₂ with heap:=h3 } H2 (s₂.heap.objs.size :: fp) (X.pn ++ pins) = Xc at I4
 have eE:Xc.env = compEnvC sc (eY X.env.cells sc.names []) h3.objs.size X.env:=by rw [← hXc]
 have eP:Xc.prog = X.prog:=by rw [← hXc]
 have eW:Xc.w = X.w:=by rw [← hXc]
 have eK:Xc.K = X.K:=by rw [← hXc]
 have eA:Xc.A = X.A:=by rw [← hXc]
 have eC:Xc.calm = true:=by rw [← hXc]; exact hc
 have eX:Xc.xe = fun _ _=>False:=by rw [← hXc]
 have hg':PG Xc tg g:=by rw [← hXc]; exact hg _ _ _ _ _
 have hif':nc Xc ifs tt:=by rw [← hXc]; exact hif _ _ _ _ _
 have hk':PE Xc kx tk:=by rw [← hXc]; exact hk _ _ _ _ _
 have he':PE Xc vx te:=by rw [← hXc]; exact he _ _ _ _ _
 have eF:Xc.fs = vd X.stack:=by rw [← hXc]
 have eEx:Xc.ex = s₂.heap.objs.size :: fp:=by rw [← hXc]
 have ePn:Xc.pn = X.pn ++ pins:=by rw [← hXc]
 have hcl:=I.lcCl S
 have sub:∀ x c,(eY X.env.cells sc.names []).lookup x = some c → X.env.cells.lookup x = some c:=fun x c h=>gx hcl (fun _ _ z=>by simp at z) h
 have szAll:∀ b ∈ s₂.heap.objs.size :: fp,b ≠ h3.objs.size:=fun b hb=>by
  rw [hC]
  rcases List.mem_cons.mp hb with e | hb
  ·rw [e]; exact Nat.ne_of_lt (Nat.lt_succ_self _)
  ·exact Nat.ne_of_lt (Nat.lt_succ_of_lt (fpsz b hb))
 have fpD:∀ b ∈ fp,s₂.heap.objs.size ≠ b:=fun b hb=>Nat.ne_of_gt (fpsz b hb)
 have stat:∀ {H':Hp} {pp:List (Addr × Obj)},∀ b ∈ s₂.heap.objs.size :: fp,H' b = none → (∀ p ∈ pp,p.1 ≠ b) → d6 Xc pp H' b:=fun {H' pp} b hb hn hpp=>by
  refine ⟨hn,?_,?_,.inl (by rw [eEx]; exact hb),?_,?_⟩
  ·rw [eE]; exact szAll b hb
  ·rw [eF]
   intro hm
   rcases List.mem_cons.mp (I.stkSub b hm) with z | z
   ·exact (hO b hb).2.1 z
   ·exact (hO b hb).2.2.1 z
  ·rw [eE]
   intro x c e
   exact (hO b hb).2.2.2.2.1 x c (sub x c e)
  ·rw [ePn]
   intro p hp
   rcases List.mem_append.mp hp with hp | hp
   ·exact (hO b hb).2.2.2.2.2 p hp
   ·exact hpp p hp
 obtain ⟨m0,w0⟩:=h0
 have loop:∀ s₃:Shared,s₃ = { s₂ with heap:=h₁,toks:=s₂.toks + ([]:List (Str × Value)).length } →
   codeAny (model X.prog X.w) X.A (.compLoop (.DictComp kx vx [⟨tg,iter,ifs,0⟩] sc pos) 0 (.ref it) (.ref s₂.heap.objs.size) (compEnvC sc (eY X.env.cells sc.names []) h3.objs.size X.env)) (RR (.ref s₂.heap.objs.size) h3.objs.size) s₃:=by
  rintro s₃ rfl
  refine codeAny_loop rfl (fun n s'=>∃ i H' vs its,aG Xc [] (gS ix σ) H' s' ∧ tn i s'.heap ∧ (∀ b ∈ s₂.heap.objs.size :: fp,H' b = none) ∧ s'.heap.DictOf (aU X.prog X.w) s₂.heap.objs.size its ∧ KV vs its ∧ W i n vs H') ?_ m0
   ⟨0,H2,[],[],I4,T.keep _ _ _ st fun b hb o e=>k1 b o (k3 b o e),fun b hb=>(hO b hb).1,gD.at fun o e=>k1 _ o e,.nil,w0⟩
  rintro n s5 ⟨i,H5,vs,its,I5,st5,fr5,dd5,rv5,w5⟩
  obtain ⟨o5,es5,ep5,hd5,hx5,hdat5,hrest5⟩:=id dd5
  show wpAny _ _ ((compTurn (.DictComp kx vx [⟨tg,iter,ifs,0⟩] sc pos) 0 (.ref it) (.ref s₂.heap.objs.size) (compEnvC sc (eY X.env.cells sc.names []) h3.objs.size X.env)).onRaise (fun x=>do noteFrame x (compEnvC sc (eY X.env.cells sc.names []) h3.objs.size X.env); theTreesLotGoes x)) _ _ s5
  refine wpAny_noted ?_
  rw [compTurn_dict]
  refine wpAny_bind (wpAny_standAt (wpAny_bind ?_))
  obtain ⟨hsz,hturn⟩:=turn i n vs H5 w5
  have pD:∀ {H':Hp} {sx:Shared} {σx:St} {o:Obj},aG Xc [] σx H' sx → H' s₂.heap.objs.size = none → sx.heap.get? s₂.heap.objs.size = some o → (∀ v,o.data ≠ .cell v) → aG Xc [(s₂.heap.objs.size,o)] σx H' sx:=fun {H' sx σx o} Ix hn ho hd =>
   Ix.pins_of fun p hp=>by
    have e:p = (s₂.heap.objs.size,o):=by simpa using hp
    subst e
    have q:d6 Xc [] H' s₂.heap.objs.size:=stat _ List.mem_cons_self hn (fun p hp=>by simp at hp)
    exact ⟨ho,hn,q.2.1,q.2.2.1,hd⟩
  have f5:∀ {H':Hp} {o:Obj},(∀ b ∈ fp,H' b = none) → ∀ b ∈ fp,d6 Xc [(s₂.heap.objs.size,o)] H' b:=fun {H' o} fr b hb=>stat b (List.mem_cons_of_mem _ hb) (fr b hb) (fun p hp=>by
   have e:p = (s₂.heap.objs.size,o):=by simpa using hp
   subst e
   exact fpD b hb)
  have I5p:=pD I5 (fr5 _ List.mem_cons_self) hd5 (fun v z=>by rw [hdat5] at z; cases z)
  have fr5':∀ b ∈ fp,H5 b = none:=fun b hb=>fr5 b (List.mem_cons_of_mem _ hb)
  rcases hturn with ⟨stop,qe⟩ | ⟨go,step⟩
  ·have q:=T.done Xc eP eW eK eC i _ s5 (gS ix σ) H5 (fun _ _=>False) I5p (f5 fr5') st5 stop
   rw [eA] at q
   refine wpAny_mono q (fun r s6 ⟨hr,I6⟩=>?_) fun _ _ z=>z.elim
   subst hr
   refine wpAny_pure ?_
   have hD6:=I6.pin (s₂.heap.objs.size,_) (List.mem_append_right _ List.mem_cons_self)
   have I6':aG (dn X sc Nc h3.objs.size { s₂ with heap:=h3 } H2 (s₂.heap.objs.size :: fp) (X.pn ++ pins)) [] (gS ix σ) H5 s6:=by rw [hXc]; exact I6.pins_of (fun p hp=>by simp at hp)
   have Ie:=I3.dcEnd (vs:=vs) (its:=its) I6' hO hD6.2.1 (dd5.at fun o e=>by rw [hd5] at e; cases e; exact hD6.1) rv5 hsm (Nat.le_of_lt hsz)
   have fr6:H5 h3.objs.size = none:=I6'.free
   have neC:h3.objs.size ≠ s₂.heap.objs.size:=Ne.symm (szAll _ List.mem_cons_self)
   obtain ⟨m6,hn6,_⟩:=I6'.loc
   refine hRR _ _ vs H5 s6 Ie hD6.2.1 (I3.fpOk (Nat.le_refl _) ?_) ⟨m6,hn6⟩ neC qe
   rw [am neC]; exact fr6
  ·have q:=T.item Xc eP eW eK eC i _ s5 (gS ix σ) H5 (fun _ _=>False) I5p (f5 fr5') st5 go
   rw [eA] at q
   refine wpAny_mono q (fun r s6 ⟨u,hr,h6⟩=>?_) fun _ _ z=>z.elim
   subst hr
   refine wpAny_bind (wpAny_mono h6 (fun _ s7 ⟨x,H7,I7,r7,y7,st7,fr7⟩=>?_) fun _ _ z=>z.elim)
   have I7':=I7.pinned (f5 fr7) (T.obj _ _ st7)
   have q8:=hg' _ s7 (gS ix σ) H7 x u _ I7' r7 (step x H7 y7)
   rw [eP,eW,eA,eE,eX] at q8
   refine wpAny_bind (wpAny_mono q8 (fun _ s8 ⟨σ8,H8,I8,q8⟩=>?_) fun _ _ z=>z.elim)
   obtain ⟨kp,q8⟩:=q8
   have q9:=hif' _ s8 σ8 H8 _ I8 q8
   rw [eP,eW,eA,eE,eX] at q9
   refine wpAny_bind (wpAny_mono q9 (fun b s9 ⟨H9,I9,q9⟩=>?_) fun _ _ z=>z.elim)
   -- what the pins say behind a step
   have back:∀ {H':Hp} {sx:Shared},aG Xc ([(s₂.heap.objs.size,o5)] ++ lH fp s7.heap) σ8 H' sx →
     aG Xc [] (gS ix σ) H' sx ∧ tn (i + 1) sx.heap ∧ (∀ b ∈ s₂.heap.objs.size :: fp,H' b = none) ∧ sx.heap.DictOf (aU X.prog X.w) s₂.heap.objs.size its:=fun {H' sx} Ix=>by
    have pd:=Ix.pin (s₂.heap.objs.size,_) (List.mem_append_right _ List.mem_cons_self)
    refine ⟨(Ix.pins_of (pins':=[]) (fun p hp=>by simp at hp)).weak kp.1 kp.2,T.keep _ _ _ st7 fun b hb o e=>(Ix.pin (b,o) (List.mem_append_right _ (List.mem_append_right _ (d7 hb e)))).1,fun b hb=>?_,dd5.at fun o e=>by rw [hd5] at e; cases e; exact pd.1⟩
    rcases List.mem_cons.mp hb with e | hb
    ·rw [e]; exact pd.2.1
    ·obtain ⟨o,e,d⟩:=T.obj _ _ st7 b hb
     exact (Ix.pin (b,o) (List.mem_append_right _ (List.mem_append_right _ (d7 hb e)))).2.1
   cases b with
   | false =>
    obtain ⟨m',hm,w9⟩:=(by simpa using q9:∃ m',m' < n ∧ W (i + 1) m' vs H9)
    obtain ⟨a1,a2,a3,a4⟩:=back I9
    exact wpAny_pure ⟨rfl,m',hm,i + 1,H9,vs,its,a1,a2,a3,a4,rv5,w9⟩
   | true =>
    have q9:tk σ8 H9 fun kv H4=>te σ8 H4 fun y H5=>∃ k,kv = kV k ∧ ∃ m',m' < n ∧ W (i + 1) m' (cR vs k y) H5:=by simpa using q9
    have q10:=hk' _ s9 σ8 H9 _ I9 q9
    rw [eP,eW,eA,eE,eX] at q10
    refine wpAny_bind (wpAny_bind (wpAny_mono q10 (fun ku sk ⟨kv,Hk,Ik,rk,qk⟩=>?_) fun _ _ z=>z.elim))
    have q11:=he' _ sk σ8 Hk _ Ik qk
    rw [eP,eW,eA,eE,eX] at q11
    refine wpAny_bind (wpAny_holding (wpAny_mono q11 (fun y s10 ⟨v10,H10,I10,r10,q10⟩=>?_) fun _ _ z=>z.elim))
    obtain ⟨kk,ek,m',hm,w10⟩:=q10
    subst ek
    obtain ⟨a1,a2,a3,a4⟩:=back I10
    refine wpAny_bind (wpAny_standAt (wpAny_holding (wpAny_dictSet_pairs (hsz:=by rw [← rv5.length]; exact Nat.le_of_lt hsz) (iL rk) a4 fun h' hp hsb=>?_)))
    have fd:d6 Xc [] H10 s₂.heap.objs.size:=stat _ List.mem_cons_self (a3 _ List.mem_cons_self) (fun p hp=>by simp at hp)
    have I11:aG Xc [] (gS ix σ) H10 { s10 with heap:=h',toks:=s10.toks + 1 }:=a1.turned (t':=s10.toks + 1) (it:=s₂.heap.objs.size) (fun b o hb e=>(hsb.2 b hb).trans e) fd.1 fd.2.1 fd.2.2.2.1 fd.2.2.2.2.1 fd.2.2.2.2.2
    exact wpAny_pure ⟨rfl,m',hm,i + 1,H10,cR vs kk v10,_,I11,T.keep _ _ _ a2 fun b hb o e=>(hsb.2 b (Ne.symm (fpD b hb))).trans e,a3,hp,rv5.put kk r10,w10⟩
 exact codeAny_compStart_dict (loop _ rfl) (T.self _ 0 _ _ _ (T.keep _ _ _ st fun b hb o e=>k1 b o (k3 b o e)) (loop _ rfl))

theorem Gh (hc:X.calm = true) (S:aW X.env.scope X.N sc Nc ix) (hi:PI X tg iter wi) (hg:∀ C s H ex pn,PG (dn X sc Nc C s H ex pn) tg g) (hif:∀ C s H ex pn,nc (dn X sc Nc C s H ex pn) ifs tt) (hk:∀ C s H ex pn,PE (dn X sc Nc C s H ex pn) kx tk) (he:∀ C s H ex pn,PE (dn X sc Nc C s H ex pn) vx te)
  (hs:∀ x,foldedSetIterable iter X.env x = pure x:=by with_unfolding_all (intro _; rfl)):PE X (.DictComp kx vx [⟨tg,iter,ifs,0⟩] sc pos) (HM ix wi g tt tk te):=by
 intro pins s σ H Q I h
 rw [arm_eval_DictComp]
 refine wpAny_comprehension_free (use:=none) rfl hs (eG (I.lcCl S)) S.kind S.loc (bw (hi pins s σ H _ I h) fun v s1 h1=>bw h1 fun itv s2 h2=>?_)
 obtain ⟨it,fp,tn,J,H2,e,I2,T,st2,f2,W,w0,turn⟩:=h2
 subst e
 refine v7 hc S hg hif hk he I2 T st2 f2 W w0 (fun ys H=>∀ p,H p = none → Q (.ref p) (upd H p (.dK ys))) turn (RR:=fun acc C=>compPost (model X.prog X.w) X.A X.xe none (EP X pins σ Q) acc C) ?_
 intro D C ys He se Ie hD fC hn hCD q
 obtain ⟨m,hn⟩:=hn
 exact ⟨m,hn,fun h' hs'=>⟨.ref D,_,Ie.letGo fC hs',rfl,q D hD⟩⟩

theorem v8 {i:Nat} {x:Str} {pos' spos:Pos} (hc:X.calm = true) (hN:X.N.Nodup) (hx:X.N[i]? = some x) (hl:X.env.scope.names.lookup x = some .local) (S:aW X.env.scope X.N sc Nc ix) (hi:PI X tg iter wi) (hg:∀ C s H ex pn,PG (dn X sc Nc C s H ex pn) tg g)
  (hif:∀ C s H ex pn,nc (dn X sc Nc C s H ex pn) ifs tt) (hk:∀ C s H ex pn,PE (dn X sc Nc C s H ex pn) kx tk) (he:∀ C s H ex pn,PE (dn X sc Nc C s H ex pn) vx te)
  (hsw:swapsWith (.DictComp kx vx [⟨tg,iter,ifs,0⟩] sc pos) (some (.Name x pos')) spos.line X.env = pure true:=by with_unfolding_all rfl)
  (hs:∀ x,foldedSetIterable iter X.env x = pure x:=by with_unfolding_all (intro _; rfl)):PS X (.Assign [.Name x pos'] (.DictComp kx vx [⟨tg,iter,ifs,0⟩] sc pos) spos) (ki (HM ix wi g tt tk te) (ig i)):=by
 intro pins s σ H D I h
 rw [exec_Assign_Name_used _ _ _ _ hsw]
 refine wpAny_bind (wpAny_standAt (wpAny_bind ?_))
 show wpAny _ X.A (do let _ ← comprehension (.DictComp kx vx [⟨tg,iter,ifs,0⟩] sc pos) sc X.env _ newDict false (eval iter X.env) (some (assign (.Name x pos') X.env))) _ _ s
 refine wpAny_bind (wpAny_mono (wpAny_comprehension_free (use:=some (assign (.Name x pos') X.env)) (Q:=fun _ s'=>SP X pins D .next s') rfl hs (eG (I.lcCl S)) S.kind S.loc
  (bw (hi pins s σ H _ I h) fun v s1 h1=>bw h1 fun itv s2 h2=>?_)) (fun _ s' hq=>wpAny_pure (wpAny_pure hq)) fun _ _ e=>e)
 obtain ⟨it,fp,tn,J,H2,e,I2,T,st2,f2,W,w0,turn⟩:=h2
 subst e
 refine v7 hc S hg hif hk he I2 T st2 f2 W w0 (fun ys H=>∀ p,H p = none → D.nx (σ.set i (some (.ref p))) (upd H p (.dK ys))) turn (RR:=fun acc C=>compPost (model X.prog X.w) X.A X.xe (some (assign (.Name x pos') X.env)) (fun _ s'=>SP X pins D .next s') acc C) ?_
 intro L C ys He se Ie hD fC hn hCD q
 obtain ⟨m,hn⟩:=hn
 show wpAny _ X.A (assign (.Name x pos') X.env (.ref L)) _ _ se
 refine wpAny_assign_Name (lE (v:=.ref L) Ie hN hx (.inl hl) rfl (fun s' I' ⟨a,hsb,ha⟩=>?_) (.inr hl))
 have ne:C ≠ a:=by
  rcases ha with e | e
  ·rw [e]; exact fC.2.1
  ·exact Ne.symm (fC.2.2.2.2.1 x a e)
 exact ⟨m,hn.sameBut hsb ne,fun h' hs'=>⟨_,_,I'.letGo fC hs',q L hD⟩⟩
end
end L2
namespace RB
open PySem L2
def Iz (σ:eD) (t:BG) (tt:BT) (tk te:BE) (k:AV → aT → Bool) (src:xy) (fuel:Nat):Nat → List (AV × AV) → aT → Bool:=Nat.rec (motive:=fun _=>Nat → List (AV × AV) → aT → Bool) (fun _ _ _=>false) (fun _ ih i ys S=>match Nat.ble ys.length 900 with
 | false=>false
 | true=>match src.nxt i S with
  | some none=>k (.ref S.n) (S.add (.dk ys))
  | some (some x)=>t x σ S fun σ2 S2=>tt σ2 S2 fun c S3=>match c with
   | true=>tk σ2 S3 fun ky S4=>te σ2 S4 fun z S5=>match fg ky with
    | true=>ih (i + 1) (qC ys ky z) S5
    | false=>false
   | false=>ih (i + 1) ys S3
  | none=>false) fuel
def IA (fuel:Nat) (ix:List (Option Nat)) (it:BI) (t:BG) (tt:BT) (tk te:BE):BE:=fun σ S k=>it σ S fun src S1=>Iz (vb ix σ) t tt tk te k src fuel 0 [] S1
def HN (fuel:Nat) (keys:Bool) (ix:List (Option Nat)) (a:BE) (t:BG) (tt:BT) (tk te:BE):BE:=fun σ S k=>a σ S fun x S1=>match Ax keys S1 x with
 | some (n,S2)=>Iz (vb ix σ) t tt tk te (v5 n k) (CY keys n) fuel 0 [] S2
 | none=>false
section
variable {a b c e o tg:Expr} {ba bb bc:BE} {bt:BT} {br:BA} {s1 s2:BS} {body:List Stmt}
abbrev AB (F:Fx) (y:Option Int) (ρ:List Addr) (H:Hp):List (AV × AV) → List (bj × V) → Prop:=Paired fun p q=>gG p.1 q.1 ∧ aY F y ρ H p.2 q.2
theorem AB.mono {y y1:Option Int} {ρ ρ1:List Addr} {H H1:Hp} (st:aD F y ρ H y1 ρ1 H1) {p:List (AV × AV)} {q:List (bj × V)} (h:AB F y ρ H p q):AB F y1 ρ1 H1 p q:=a0 (fun _ _ z=>⟨z.1,aY.mono st z.2⟩) h
theorem zi {y1:Option Int} {ρ1:List Addr} {S1:aT} {H1:Hp} {fuel:Nat} {t:BG} {tt:BT} {tk te:BE} {src:xy} {J:It} {k:AV → aT → Bool} {Q:VK} {σ:L2.St} {σa:eD} (hsl:∀ j ∈ sl,ix[j]? = some none) (C1:aM g F y1 ρ1 S1 H1) (r1:bE g F y1 ρ1 H1 σa σ) (so:mJ g F y1 ρ1 H1 src J)
  (h1:Iz (vb ix σa) t tt tk te k src fuel 0 [] S1 = true) (p:jk g F y1 ρ1 H1 k Q):∃ W:Nat → Nat → List (bj × V) → Hp → Prop,(∃ m,W 0 m [] H1) ∧ ∀ i m ys H,W i m ys H → ys.length < sizeLine ∧
 ((J.stop i H ∧ ∀ p,H p = none → Q (.ref p) (upd H p (.dK ys))) ∨ (J.go i H ∧ ∀ x H',J.yld i H x H' → oP g sl t x (gS ix σ) H' fun σ2 H2=>L2.xh (gS ix σ) σ2 ∧ fw g tt σ2 H2 fun b H3 =>
  if b = true then up g tk σ2 H3 fun kv H4=>up g te σ2 H4 fun y H5=>∃ k,kv = kV k ∧ ∃ m',m' < m ∧ W (i + 1) m' (cR ys k y) H5 else ∃ m',m' < m ∧ W (i + 1) m' ys H3)):=by
 refine ⟨fun i m ys H'=>∃ y' ρ' S' ays,aD F y1 ρ1 H1 y' ρ' H' ∧ aM g F y' ρ' S' H' ∧ AB F y' ρ' H' ays ys ∧ Iz (vb ix σa) t tt tk te k src m i ays S' = true,⟨fuel,y1,ρ1,S1,[],.refl,C1,.nil,h1⟩,?_⟩
 rintro i m ys H2 ⟨y2,ρ2,S2,ays,st2,C2,r2,h2⟩
 obtain ⟨t1,t2⟩:=so.turn y2 ρ2 S2 H2 i st2 C2
 cases m with
 | zero=>cases h2
 | succ m =>
  have h2:(match Nat.ble ays.length 900 with
   | false=>false
   | true=>match src.nxt i S2 with
    | some none=>k (.ref S2.n) (S2.add (.dk ays))
    | some (some x)=>t x (vb ix σa) S2 fun σ2 S2=>tt σ2 S2 fun c S3=>match c with
     | true=>tk σ2 S3 fun ky S4=>te σ2 S4 fun z S5=>match fg ky with
      | true=>Iz (vb ix σa) t tt tk te k src m (i + 1) (qC ays ky z) S5
      | false=>false
     | false=>Iz (vb ix σa) t tt tk te k src m (i + 1) ays S3
    | none=>false) = true:=h2
  cases q0:Nat.ble ays.length 900 with
  | false=>rw [q0] at h2; cases h2
  | true =>
   rw [q0] at h2
   have hl:=Paired.length r2
   have hl2:=bO q0
   refine ⟨ce (by omega),?_⟩
   dsimp only at h2
   cases q:src.nxt i S2 with
   | none=>rw [q] at h2; cases h2
   | some ox=>cases ox with
    | none =>
     rw [q] at h2
     refine .inl ⟨t2 q,fun pl hp=>?_⟩
     have st3:aD F y2 ρ2 H2 y2 (ρ2 ++ [pl]) (upd H2 pl (.dK ys)):=aD.add hp
     exact p y2 _ _ _ (.ref S2.n) _ (st2.trans st3) (C2.add (o:=.dk ays) hp ⟨ys,rfl,AB.mono st3 r2⟩) ⟨pl,by rw [C2.n]; simp,rfl⟩ h2
    | some ax =>
     rw [q] at h2
     obtain ⟨go,yl⟩:=t1 ax q
     refine .inr ⟨go,fun x H3 yx=>?_⟩
     obtain ⟨st3,C3,rx⟩:=yl x H3 yx
     have rl:bE g F y2 ρ2 H3 (vb ix σa) (gS ix σ):=Cz (bE.mono (st2.trans st3) r1) ix
     refine ⟨F,y2,ρ2,S2,ax,_,_,C3,rx,rl,h2,fun y4 ρ4 S4 H4 σ4 σ5 st4 C4 r4 o4 h4=>⟨⟨o4.1.symm,fun j v e=>?_⟩,?_⟩⟩
     ·rw [o4.2 j fun m=>?_]
      ·exact e
      ·have z:=hsl j m
       unfold gS at e
       rw [List.getElem?_map,z] at e
       cases e
     ·refine eN C4 r4 h4 fun y5 ρ5 S5 H5 c st5 C5 r5 h5=>?_
      have stc:=((st2.trans st3).trans st4).trans st5
      have r25:=AB.mono ((st3.trans st4).trans st5) r2
      cases c with
      | false=>exact qw ⟨m,Nat.lt_succ_self m,y5,ρ5,S5,ays,stc,C5,r25,h5⟩
      | true =>
       refine qx (ay C5 r5 h5 fun y6 ρ6 S6 H6 ak kv st6 C6 r6 rk h6=>ay C6 r6 h6 fun y7 ρ7 S7 H7 az z st7 C7 r7 rz h7=>?_)
       cases qk:fg ak with
       | false=>simp only [qk] at h7; cases h7
       | true =>
        simp only [qk] at h7
        obtain ⟨kk,hk,rfl⟩:=RB.dc qk rk
        refine ⟨kk,rfl,m,Nat.lt_succ_self m,y7,ρ7,S7,qC ays ak az,(stc.trans st6).trans st7,C7,?_,h7⟩
        exact nS (KR:=gG) (R:=aY F y7 ρ7 _) (fun _ _ _ _ h1 h2=>fZ h1 h2) hk rz (AB.mono (st6.trans st7) r25)
theorem Da {fuel:Nat} {it:BI} {t:BG} {tt:BT} {tk te:BE} (hsl:∀ j ∈ sl,ix[j]? = some none):∀ σ H Q,up g (IA fuel ix it t tt tk te) σ H Q → HM ix (Cy g it) (oP g sl t) (fw g tt) (up g tk) (up g te) σ H Q:=by
 rintro σ H Q ⟨F,y,ρ,S,σa,k,C,r,h,p⟩
 exact ⟨F,y,ρ,S,σa,_,C,r,h,fun y1 ρ1 S1 H1 src J st C1 so h1=>zi hsl C1 (bE.mono st r) so h1 (p.mono st)⟩
theorem Gi (fuel:Nat) {it:BI} {t:BG} {tt:BT} {tk te:BE} (hsl:∀ j ∈ sl,ix[j]? = some none) (h:PE X e (HM ix (Cy g it) (oP g sl t) (fw g tt) (up g tk) (up g te))):PE X e (up g (IA fuel ix it t tt tk te)):=PE.imp (Da hsl) h
theorem Db (fuel:Nat) (i:Nat) {it:BI} {t:BG} {tt:BT} {tk te:BE} (hsl:∀ j ∈ sl,ix[j]? = some none) (h:PS X st (ki (HM ix (Cy g it) (oP g sl t) (fw g tt) (up g tk) (up g te)) (ig i))):PS X st (dh g (aZ (IA fuel ix it t tt tk te) (ah i))) :=
 PS.imp (fun D σ H ⟨F,y,ρ,S,σa,d,C,r,h,p,_⟩=>Da (fuel:=fuel) hsl σ H _ (ay C r h fun y1 ρ1 S1 H1 ax x st C1 r1 rx h1=>p y1 ρ1 S1 H1 _ _ st C1 (dJ r1 rx) h1)) h
theorem Fh (fuel:Nat) {t:BG} {tt:BT} {tk te:BE} {H₀:Hp} (hsl:∀ j ∈ sl,ix[j]? = some none):∀ σ H Q,up g (HN fuel true ix ba t tt tk te) σ H Q → HM ix (CV H₀ (up g ba)) (oP g sl t) (fw g tt) (up g tk) (up g te) σ H (fun v H'=>Aw H₀ (Q v) H'):=fun σ H Q ⟨F,y,ρ,S,σa,k,C,r,h,p⟩ =>
 ay C r h fun y1 ρ1 S1 H1 ax x st C1 r1 rx h1=>by
  cases q:Ax true S1 ax with
  | none=>simp only [q] at h1; cases h1
  | some m =>
   obtain ⟨n,S2⟩:=m
   simp only [q] at h1
   obtain ⟨a,ks,rfl,rfl,hρ,ha,fr⟩:=Fd C1 rx q
   refine ⟨a,ks,rfl,ha,fun ob nf=>?_⟩
   obtain ⟨stf,Cf⟩:=fr ob
   refine zi (Q:=fun v H'=>Aw H₀ (Q v) H') hsl Cf (bE.mono stf r1) (C8 hρ aC .k) h1 fun y3 ρ3 S3 H3 av v st3 C3 rv h3=>?_
   unfold v5 at h3
   split at h3
   ·rename_i S4 q4
    obtain ⟨t1,t2,t3⟩:=ue (H0:=H1) hρ ha rfl st3 stf C3 q4
    exact ⟨a,ob,_,t1,nf,p y3 ρ3 S4 _ av v (st.trans t2) t3 (v6 t1 rv) h3⟩
   ·cases h3
theorem AC (fuel:Nat) (i:Nat) {t:BG} {tt:BT} {tk te:BE} (hsl:∀ j ∈ sl,ix[j]? = some none) (h:PS X st (ki (HM ix (CV X.H₀ (up g ba)) (oP g sl t) (fw g tt) (up g tk) (up g te)) (ig i))):PS X st (dh g (aZ (HN fuel true ix ba t tt tk te) (ah i))) :=
 PS.imp (fun D σ H ⟨F,y,ρ,S,σa,d,C,r,h,p,_⟩=>Fh fuel hsl σ H _ (ay C r h fun y1 ρ1 S1 H1 ax x st C1 r1 rx h1=>p y1 ρ1 S1 H1 _ _ st C1 (dJ r1 rx) h1)) (PS.thaw h)
end
end RB
namespace L2
open PySem PySem.Spec PyProof.Rows PySem.W
def uf {α:Type} (f:Nat → Nat → Option Bool):KasT α → Option α
 | .ret a=>some a
 | .ask i j k=>match f i j with
  | some b=>uf f (k b)
  | none=>none
theorem sm {α:Type} {cmp:Nat → Nat → (Bool → Shared → Prop) → Shared → Prop} {s:Shared} {f:Nat → Nat → Option Bool} (h:∀ i j b,f i j = some b → ∀ C:Bool → Shared → Prop,C b s → cmp i j C s) {G:α → Shared → Prop} {a:α} (hG:G a s) :
  ∀ (t:KasT α),uf f t = some a → t.kasWp cmp G s
 | .ret b,e=>by cases e; exact hG
 | .ask i j k,e=>by
  unfold uf at e
  cases q:f i j with
  | none=>rw [q] at e; cases e
  | some b =>
   rw [q] at e
   exact h i j b q _ (sm h hG (k b) e)
def xG (tp:Bool) (kz:List Int) (i j:Nat):Option Bool:=match kz[i]?,kz[j]? with
 | some a,some b=>if tp = true ∧ a = b then none else some (decide (a < b))
 | _,_=>none
def Dc (H:Hp) (tp:Bool):List Int → List V → Prop:=Paired fun k x=>match tp with
 | true=>∃ b ys,x = .ref b ∧ H b = some (.tup (.int k :: ys))
 | false=>x = .int k
def zj (prog:Program) (w:World) (A:Around) (us vs:List Value) (p:Array Nat) (s:Shared):Prop :=
 ∀ (Q:SortSt → Shared → Prop) (E:Value → Shared → Prop),(∀ st',p.size = vs.length → arrOf st' = p.map (kas_item (us.toArray.zip vs.toArray)) → failedOf st' = none → Q st' s) →
  wpAny (model prog w) A (keyKind' us.toArray) (fun κ s'=>wpAny (model prog w) A ((sortRuns').run (SortSt.mk' κ (us.toArray.zip vs.toArray) #[] 7 none)) (fun r s''=>Q r.2 s'') E s') E s
theorem su {H:Hp}:∀ {kz:List Int} {ks:List V} {us:List Value},Dc H false kz ks → aN ks us → IntsAre us kz
 | _,_,_,.nil,r=>by cases r; exact .nil
 | _,_,_,.cons e t,r=>by
  cases r with
  | cons ru rt =>
   cases (show _ = V.int _ from e)
   obtain ⟨t',rfl⟩:=ru
   exact .cons _ _ (su (H:=H) t rt)
theorem oZ:∀ {kz:List Int} {us:List Value} {i:Nat} {k:Int},IntsAre us kz → kz[i]? = some k → ∃ t,us[i]? = some (.int k t)
 | _,_,_,_,.nil,e=>by simp at e
 | _,_,0,_,.cons n t _,e=>by simp at e; subst e; exact ⟨t,rfl⟩
 | _,_,i + 1,k,.cons _ _ r,e=>by
  obtain ⟨t,h⟩:=oZ (i:=i) (k:=k) r (by simpa using e)
  exact ⟨t,by simpa using h⟩
theorem sv {P:Program} {w:World} {H:Hp} {h:Heap} (ok:iF P w H h):∀ {kz:List Int} {ks:List V} {us:List Value},Dc H true kz ks → aN ks us → ∃ fs,KatTups h us fs ∧ IntsAre fs kz ∧
  ∀ (i:Nat) (k:Int),kz[i]? = some k → ∃ a o xs n t,us[i]? = some (.ref a) ∧ h.get? a = some o ∧ o.data = .seq xs n ∧ xs.toList.head? = some (.int k t)
 | _,_,_,.nil,r=>by cases r; exact ⟨[],KatTups.nil,.nil,fun i k e=>by simp at e⟩
 | _,_,_,.cons (a:=k0) e t,r=>by
  cases r with
  | cons ru rt =>
   obtain ⟨b,ys,rfl,hb⟩:=e
   cases (show _ = Value.ref b from ru)
   obtain ⟨fs,h1,h2,h3⟩:=sv ok t rt
   obtain ⟨z,its,rv,o,e1,e2,n,e3⟩:=ok b _ hb
   cases rv with
   | cons r0 r1 =>
    obtain ⟨t0,rfl⟩:=r0
    refine ⟨_ :: fs,KatTups.cons e1 e2 e3 rfl h1,.cons k0 t0 h2,fun i k ei=>?_⟩
    cases i with
    | zero=>simp at ei; subst ei; exact ⟨b,o,_,n,t0,rfl,e1,e3,rfl⟩
    | succ i =>
     obtain ⟨a,o',xs,n',t',q⟩:=h3 i k (by simpa using ei)
     exact ⟨a,o',xs,n',t',by simpa using q⟩
theorem De {xs ys:List Value} {p q:Value} (h1:xs.head? = some p) (h2:ys.head? = some q):∃ r,xs.zip ys = (p,q) :: r:=by
 cases xs with
 | nil=>cases h1
 | cons x xs=>cases ys with
  | nil=>cases h2
  | cons y ys=>cases h1; cases h2; exact ⟨_,rfl⟩
theorem Df {tp:Bool} {kz:List Int} {ks:List V} {us vs:List Value} {p:Array Nat} (ok:iF prog w H s.heap) (kI:Dc H tp kz ks) (rk:aN ks us) (hl:us.length = vs.length) (h2:2 ≤ vs.length) (h64:vs.length < 64)
  (hr:uf (xG tp kz) (kas_sort vs.length) = some p):zj prog w A us vs p s:=by
 intro Q E hq
 have step:∀ κ,(∀ i j b,xG tp kz i j = some b → ∀ C:Bool → Shared → Prop,C b s → kas_ask prog w A κ us i j C s) → wpAny (model prog w) A ((sortRuns').run (SortSt.mk' κ (us.toArray.zip vs.toArray) #[] 7 none)) (fun r s''=>Q r.2 s'') E s:=fun κ hc =>
  kat_run (Q:=Q) (G:=fun p' s'=>p' = p ∧ s' = s) hl h2 h64 (fun p' st' s' z e1 e2 e3=>by obtain ⟨rfl,rfl⟩:=e3; exact hq st' z e1 e2) (sm hc ⟨rfl,rfl⟩ _ hr)
 have gd:∀ {i:Nat} {v:Value},us[i]? = some v → us.getD i Value.none = v:=fun {i v} e=>by rw [List.getD_eq_getElem?_getD,e]; rfl
 cases tp with
 | false =>
  have hI:=su kI rk
  have hk:=ksk_kind (keys:=us.toArray) (by simpa using hI) (by simpa [hl] using h2)
  rw [hk]
  refine wpAny_pure (step _ fun i j b e C hC=>?_)
  unfold xG at e
  split at e
  ·rename_i a c e1 e2
   simp at e
   obtain ⟨t1,g1⟩:=oZ hI e1
   obtain ⟨t2,g2⟩:=oZ hI e2
   unfold kas_ask
   rw [gd g1,gd g2]
   refine kat_lt_int ?_
   rw [e]; exact hC
  ·cases e
 | true =>
  obtain ⟨fs,t1,t2,t3⟩:=sv ok kI rk
  have hfl:0 < fs.length:=by
   have q1:=t2.length
   have q2:=Paired.length kI
   have q3:=rk.length
   omega
  refine kat_kind (T:=.type "int") t1 hfl (fun v hv=>?_) rfl (step _ fun i j b e C hC=>?_)
  ·obtain ⟨n,t,rfl⟩:=t2.all v hv
   exact .now
  ·unfold xG at e
   split at e
   ·rename_i a c e1 e2
    split at e
    ·cases e
    ·rename_i hne
     simp at e hne
     obtain ⟨a1,o1,xs1,n1,u1,g1,g2,g3,g4⟩:=t3 i a e1
     obtain ⟨a2,o2,xs2,n2,u2,k1,k2,k3,k4⟩:=t3 j c e2
     unfold kas_ask
     rw [gd g1,gd k1]
     refine kat_lt g2 g3 k2 k3 ?_
     obtain ⟨r,hz⟩:=De g4 k4
     rw [hz]
     refine kat_cons (wpAny_eqBool_int ?_)
     have:(a == c) = false:=by simpa using hne
     rw [this]
     refine kat_no (oneLt_int ?_)
     rw [e]; exact hC
   ·cases e
def Dg (prog:Program) (w:World) (A:Around) (us vs out:List Value) (s:Shared):Prop :=
 (vs.length < 2 ∧ out = vs) ∨ (2 ≤ vs.length ∧ ∃ p:Array Nat,zj prog w A us vs p s ∧ out = p.toList.map fun i=>vs.getD i Value.none)
section
variable {a kS:Addr} {vs us out:List Value} {e e1:Nat} {P:PySem.Fin → Shared → Prop}
theorem Jx {n:Nat} (ho:s.heap.get? a = some (seqObj "list" vs.toArray n)) (h64:vs.length < 64)
  (hs:∀ h' tk',oN a s.heap h' → Dg prog w A vs vs out { s with heap:=h',toks:=tk' })
  (h:∀ h' c,oN a s.heap h' → h'.get? a = some (seqObj "list" out.toArray c) → P (.done (.ret .none)) { s with heap:=h' }) :
  wpAny (model prog w) A (Builtin.«list.sort» ⟨[.ref a],[]⟩) P E s:=by
 have few:vs.length ≤ sizeLine:=by rw [sizeLine_eq]; omega
 obtain ⟨e1,ho1⟩:∃ e1,(s.heap.update a (Obj.mapSeq fun _=>(#[]:Array Value))).get? a = some (seqObj "list" #[] e1):=⟨_,get?_update_seq ho fun _=>#[]⟩
 rw [list_sort_plain]
 refine wpAny_bind (listItems_at ho rfl (wpAny_bind (listUpdate_at ho rfl (wpAny_bind (seqEpoch_at ho1 rfl (wpAny_bind (wpAny_newTuple (wpAny_bind (wpAny_newList (wpAny_holding ?_) (Nat.zero_le _))) few)))) (by rw [List.size_toArray]; exact few) (Nat.zero_le _))))
 have kpA:oN a s.heap (((s.heap.update a (Obj.mapSeq fun _=>(#[]:Array Value))).push (seqObj "tuple" vs.toArray 0)).push (seqObj "list" #[] 0)):=((oN.upd _ _ _).kp (Kp.push _ _)).kp (Kp.push _ _)
 have ho6:(((s.heap.update a (Obj.mapSeq fun _=>(#[]:Array Value))).push (seqObj "tuple" vs.toArray 0)).push (seqObj "list" #[] 0)).get? a = _:=Heap.get?_push_of_some _ (Heap.get?_push_of_some _ ho1)
 have hs':=hs _ s.toks kpA
 show wpAny (model prog w) A _ P E { s with heap:=((s.heap.update a (Obj.mapSeq fun _=>(#[]:Array Value))).push (seqObj "tuple" vs.toArray 0)).push (seqObj "list" #[] 0) }
 dsimp only
 rcases hs' with ⟨h2,rfl⟩ | ⟨h2,p,hp,rfl⟩
 ·have h2':out.toArray.size < 2:=by rw [List.size_toArray]; exact h2
  rw [if_pos h2',if_pos h2']
  refine wpAny_bind (wpAny_pure ?_)
  rw [StateT.run_pure]
  refine wpAny_bind (wpAny_pure ?_)
  have H1:(arrOf (SortSt.mk' general' (out.toArray.zip out.toArray) #[] 7 none)).map (·.2) = out.toArray:=by
   show (out.toArray.zip out.toArray).map (·.2) = out.toArray
   apply Array.toList_inj.mp
   rw [Array.toList_map,ksk_zip]
   simp [List.map_snd_zip]
  have H3:failedOf (SortSt.mk' general' (out.toArray.zip out.toArray) #[] 7 none) = none:=rfl
  dsimp only
  rw [H1]
  refine wpAny_bind (seqEpoch_at ho6 rfl ?_)
  refine wpAny_bind (listUpdate_at ho6 rfl ?_ (Nat.zero_le _) (by rw [List.size_toArray]; omega))
  (try rw [H3])
  simp only [bne_self_eq_false,Bool.false_eq_true,if_false]
  exact wpAny_pure (h _ _ (kpA.trans (oN.upd _ _ _)) (get?_update_seq ho6 fun _=>_))
 ·have h2':¬ vs.toArray.size < 2:=by rw [List.size_toArray]; omega
  rw [if_neg h2',if_neg h2']
  refine wpAny_bind (wpAny_mono (hp (fun st' s'=>p.size = vs.length ∧ arrOf st' = p.map (kas_item (vs.toArray.zip vs.toArray)) ∧ failedOf st' = none ∧ s' = _) E fun st' q1 q2 q3=>⟨q1,q2,q3,rfl⟩) (fun κ s' hk=>wpAny_bind (wpAny_mono hk ?_ fun _ _ x=>x)) fun _ _ x=>x)
  rintro ⟨⟨⟩,st'⟩ s'' ⟨q1,q2,q3,rfl⟩
  have H1:=kat_snds rfl q2
  have H3:=q3
  have H2:(p.toList.map fun i=>vs.getD i Value.none).length ≤ sizeLine:=by rw [List.length_map,Array.length_toList,q1]; exact few
  dsimp only
  rw [H1]
  refine wpAny_bind (seqEpoch_at ho6 rfl ?_)
  refine wpAny_bind (listUpdate_at ho6 rfl ?_ (Nat.zero_le _) (by rw [List.size_toArray]; omega))
  (try rw [H3])
  simp only [bne_self_eq_false,Bool.false_eq_true,if_false]
  exact wpAny_pure (h _ _ (kpA.trans (oN.upd _ _ _)) (get?_update_seq ho6 fun _=>_))
end
def K3 (prog:Program) (w:World) (a:Addr) (xs:List V) (s:Shared):Prop :=
 ∀ (A:Around) (Q:List Value → Shared → Prop) (E:Value → Shared → Prop),A.handled = none → (∀ vs g tk,aN xs vs → Kp s.heap g → Q vs { s with heap:=g,toks:=tk }) → wpAny (model prog w) A (collect (.ref a)) Q E s
inductive uh (w:World) (H:Hp):Addr → List V → Prop where
 | lst {a:Addr} {xs:List V}:H a = some (.lst xs) → uh w H a xs
 | tup {a:Addr} {xs:List V}:H a = some (.tup xs) → uh w H a xs
 | dk {a:Addr} {kvs:List (bj × V)}:H a = some (.dK kvs) → uh w H a (kvs.map fun p=>kV p.1)
theorem sw {kvs:List (bj × V)} {vs:List (bj × Value)} (r:KV kvs vs) (hl:us.length = vs.length) (h:∀ (i:Nat) v,us[i]? = some v → ∃ k x,vs[i]? = some (k,x) ∧ (aU prog w).is k v = true):aN (kvs.map fun p=>kV p.1) us:=by
 induction r generalizing us with
 | nil =>
  cases us with
  | nil=>exact .nil
  | cons _ _=>simp at hl
 | @cons p q ps qs h0 t ih =>
  cases us with
  | nil=>simp at hl
  | cons u us =>
   obtain ⟨k,x,e,hk⟩:=h 0 u rfl
   simp at e
   obtain ⟨rfl⟩:=e
   refine .cons ?_ (ih (by simpa using hl) fun i v e=>by simpa using h (i + 1) v (by simpa using e))
   have h1:=h0.1
   dsimp only at h1
   show aO (kV p.1) u
   rw [h1]
   exact CU hk
section
theorem Dh {σ:L2.St} {a:Addr} (I:aG X pins σ H s) (src:uh X.w H a xs):K3 X.prog X.w a xs s:=by
 intro A Q E hh q
 cases src with
 | lst h =>
  obtain ⟨its,n,rv,ho,z⟩:=I.lst h
  exact wpAny_collect_seq a (.inl rfl) ho rfl rfl (fun g kg=>q _ g s.toks rv kg) (by rw [List.size_toArray,← rv.length]; exact z)
 | tup h =>
  obtain ⟨z,its,rv,o,ho,hc,n,hd⟩:=I.hok a _ h
  exact wpAny_collect_seq a (.inr rfl) ho hc hd (fun g kg=>q _ g s.toks rv kg) (by rw [List.size_toArray,← rv.length]; exact z)
 | @dk kvs h =>
  obtain ⟨z,hd,vs,rv,dd⟩:=vv I.hok h
  obtain ⟨ep,dat⟩:=dd.dictAt
  refine kdu_collect (kdl_dict (knd:=aU X.prog X.w) (kvs:=vs) (ep:=ep) hd) hh dat (by rw [← rv.length]; exact z) fun h' tk acc hk ha=>?_
  refine q _ h' tk (sw (prog:=X.prog) (w:=X.w) rv (by rw [Array.length_toList]; exact ha.1) fun i v e=>?_) hk
  exact ha.2 i v (by rw [← Array.getElem?_toList]; exact e)
def f7 (H:Hp) (ks xs out:List V):Prop :=
 (xs.length < 2 ∧ out = xs) ∨ (2 ≤ xs.length ∧ ∃ tp kz p,Dc H tp kz ks ∧ uf (xG tp kz) (kas_sort xs.length) = some p ∧ p.size ≤ 64 ∧ out = p.toList.map fun i=>xs.getD i .non)
theorem l0:∀ {xs:List V} {vs:List Value} (i:Nat),aN xs vs → aO (xs.getD i .non) (vs.getD i Value.none)
 | _,_,_,.nil=>rfl
 | _,_,0,.cons r _=>r
 | _,_,i + 1,.cons _ t=>by simpa using l0 i t
theorem sy {xs:List V} {vs:List Value} (r:aN xs vs):∀ l:List Nat,aN (l.map fun i=>xs.getD i .non) (l.map fun i=>vs.getD i Value.none)
 | []=>.nil
 | i :: l=>.cons (l0 i r) (sy r l)
theorem k5 {ks xs out:List V} {us vs:List Value} (so:f7 H ks xs out) (rk:aN ks us) (r:aN xs vs) (hl:us.length = vs.length) (h64:vs.length < 64) :
  ∃ outv,aN out outv ∧ outv.length ≤ 64 ∧ ∀ s:Shared,iF prog w H s.heap → Dg prog w A us vs outv s:=by
 have hx:=r.length
 rcases so with ⟨h2,rfl⟩ | ⟨h2,tp,kz,p,k,hr,hp,rfl⟩
 ·exact ⟨vs,r,by omega,fun s _=>.inl ⟨by omega,rfl⟩⟩
 ·rw [hx] at hr h2
  exact ⟨_,sy r _,by rw [List.length_map,Array.length_toList]; exact hp,fun s ok=>.inr ⟨h2,p,Df ok k rk hl h2 h64 hr,rfl⟩⟩
def zk (w:World):List V → Hp → VK → Prop:=fun vs H Q=>∃ a xs out,vs = [.ref a] ∧ uh w H a xs ∧ xs.length < 64 ∧ f7 H xs xs out ∧ ∀ p,H p = none → Q (.ref p) (upd H p (.lst out))
theorem o3 {σ:L2.St} {a:Addr} {ys out:List V} {Q:VK} (hc:X.calm = true) (I:aG X pins σ H s) (col:K3 X.prog X.w a ys s) (h64:ys.length < 64) (so:f7 H ys ys out) (q:∀ p,H p = none → Q (.ref p) (upd H p (.lst out))) :
  wpAny (model X.prog X.w) X.A (call (.builtin "sorted") [.ref a]) (EP X pins σ Q) X.xe s:=by
 have hh:=I.ok.hd hc
 refine Calls.call_function_entry kind_sorted plain_sorted entry_sorted (args_sorted1 _) ?_
 unfold Builtin.«sorted»
 refine wpAny_bind (m:=checkCount "sorted" 1 1 _) (wpAny_pure (wpAny_bind (col _ _ _ hh fun vs g tk rv kg=>?_)))
 have hl:=rv.length
 have few:vs.length ≤ sizeLine:=by rw [sizeLine_eq]; omega
 refine wpAny_bind (wpAny_newList ?_ few)
 have hoL:(g.push (seqObj "list" vs.toArray 0)).get? g.objs.size = some (seqObj "list" vs.toArray 0):=Heap.get?_push_size _ rfl
 have kp0:Kp s.heap (g.push (seqObj "list" vs.toArray 0)):=Kp.trans kg (Kp.push _ _)
 have I1:aG X pins σ H { s with heap:=g,toks:=tk }:=I.kept kg
 have kL:Kp g (g.push (seqObj "list" vs.toArray 0)):=Kp.push _ _
 have nD:∀ b ob,g.get? b = some ob → b ≠ g.objs.size:=fun b ob e=>Nat.ne_of_lt (Heap.lt_size e)
 obtain ⟨outv,ro,lo,sr⟩:=k5 (prog:=X.prog) (w:=X.w) (A:=X.A.in1.in1) so rv rv rfl (by omega)
 show wpAny _ _ _ _ _ { s with heap:=g.push (seqObj "list" vs.toArray 0),toks:=tk }
 refine wpAny_bind (wpAny_holding (wpAny_call_entry slot_list_sort ⟨_,hoL,rfl⟩ entry_list_sort ?_ (args_list_sort _)))
 refine Jx (s:={ s with heap:=g.push (seqObj "list" vs.toArray 0),toks:=tk }) hoL (by omega) (fun h' tk' kp=>sr _ ?_) fun h' c kp hD=>⟨_,rfl,wpAny_pure ⟨_,rfl,?_⟩⟩
 ·exact (I1.kept (h':=h') (t':=tk') fun b ob e=>kp b ob (nD b ob e) (kL b ob e)).hok
 ·have e1:out.length ≤ sizeLine:=by rw [ro.length,sizeLine_eq]; omega
  exact ⟨.ref g.objs.size,_,I1.laid (a:=g.objs.size) (h':=h') (o:=.lst out) (t':=tk) (fun b ob e=>kp b ob (nD b ob e) (kL b ob e)) (Nat.le_refl _) ⟨e1,outv,c,ro,hD⟩,rfl,q _ (I1.hok.fresh (Nat.le_refl _))⟩
theorem eO (hc:X.calm = true):dy X (.builtin "sorted") (zk X.w):=by
 intro pins s σ H xs us Q I r h
 obtain ⟨a,ys,out,rfl,src,h64,so,q⟩:=h
 obtain ⟨u,rfl,ru⟩:=iH r
 cases ru
 exact o3 hc I (Dh I src) h64 so q
def Di:List V → Hp → VK → Prop:=fun vs H Q=>∃ a kvs,vs = [.ref a] ∧ H a = some (.dK kvs) ∧ ∀ p,H p = none → Q (.ref p) (upd H p (.lst (kvs.map fun p=>kV p.1)))
theorem o6 (hc:X.calm = true):dy X (.type "list") Di:=by
 intro pins s σ H xs us Q I r h
 obtain ⟨a,kvs,rfl,ha,q⟩:=h
 obtain ⟨u,rfl,ru⟩:=iH r
 cases ru
 obtain ⟨z,hd,vs,rv,dd⟩:=vv I.hok ha
 obtain ⟨ep,dat⟩:=dd.dictAt
 refine kdl_call (kdl_dict (knd:=aU X.prog X.w) (kvs:=vs) (ep:=ep) hd) (I.ok.hd hc) dat (by rw [← rv.length]; exact z) fun h' tk acc c hk hD ha=>?_
 have rr:aN (kvs.map fun p=>kV p.1) acc.toList:=sw (prog:=X.prog) (w:=X.w) rv (by rw [Array.length_toList]; exact ha.1) fun i v e=>ha.2 i v (by rw [← Array.getElem?_toList]; exact e)
 exact ⟨.ref s.heap.objs.size,_,I.laid (a:=s.heap.objs.size) (h':=h') (o:=.lst (kvs.map fun p=>kV p.1)) (t':=tk) hk (Nat.le_refl _) ⟨by rw [List.length_map]; exact z,acc.toList,c,rr,by rw [hD]⟩,rfl,q _ (I.hok.fresh (Nat.le_refl _))⟩
end
def mK (sp:Sp) (E:XK) (D kS:Addr) (ob:Obj) (Fin:List V → Hp → Prop):List V → List V → Hp → Prop
 | [],ks,H=>Fin ks H
 | x :: r,ks,H=>sp [x] H (fun k H'=>H' D = some (.frz ob (.lst [])) ∧ H' kS = some (.lst ks) ∧ mK sp E D kS ob Fin r (ks ++ [k]) (upd H' kS (.lst (ks ++ [k])))) E
def zl (w:World) (sp:Sp) (E:XK) (te:TE):TE:=fun σ H Q=>te σ H fun v H1=>∃ a xs,v = .ref a ∧ uh w H1 a xs ∧ xs.length < 64 ∧ ∀ D kS ob,H1 D = none → H1 kS = none → kS ≠ D →
 mK sp E D kS ob (fun ks H2=>∃ out,f7 H2 ks xs out ∧ H2 D = some (.frz ob (.lst [])) ∧ H2 kS = some (.lst ks) ∧ Q (.ref D) (upd (upd H2 kS (.lst [])) D (.lst out))) xs [] (upd (upd H1 D (.frz ob (.lst []))) kS (.lst []))
section
variable {σ:L2.St}
theorem aG.noFrz {a:Addr} (I:aG X pins σ H s) (h:H a = some (.lst xs)):∀ o u,X.H₀ a ≠ some (.frz o u):=fun o u e=>by
 have:=I.base.frzs a o u e
 rw [h] at this; cases this
theorem xH {D kS:Addr} {e1 e2:Nat} {ks xs out:List V} {us vs:List Value} {P:PySem.Fin → Shared → Prop} (I:aG X pins σ H s) (nf:∀ o u,X.H₀ D ≠ some (.frz o u)) (hD:H D = some (.frz (seqObj "list" #[] e1) (.lst []))) (hS:H kS = some (.lst ks))
  (ho:s.heap.get? kS = some { cls:=.type "list",data:=.seq us.toArray e2 }) (rk:aN ks us) (rv:aN xs vs) (hl:us.length = vs.length) (h64:vs.length < 64) (so:f7 H ks xs out)
  (h:∀ s',aG X pins σ (upd (upd H kS (.lst [])) D (.lst out)) s' → P (.done (.ret .none)) s') :
  wpAny (model X.prog X.w) A (ksk_end D false vs.toArray e1 (.ref kS) us.toArray) P E s:=by
 obtain ⟨outv,ro,lo,sr⟩:=k5 (prog:=X.prog) (w:=X.w) (A:=A) so rk rv hl h64
 have hoD:s.heap.get? D = some (seqObj "list" #[] e1):=(I.hok D _ hD).1
 have ne:kS ≠ D:=fun z=>by rw [z,hD] at hS; cases hS
 have zs:us.toArray.size ≤ sizeLine:=by rw [List.size_toArray,sizeLine_eq]; omega
 -- the tail
 have tail:∀ st:SortSt,(arrOf st).map (·.2) = outv.toArray → failedOf st = none → wpAny (model X.prog X.w) A (ksk_tail D false e1 (.ref kS) st) P E s:=fun st h1 h3=>by
  unfold ksk_tail
  dsimp only
  rw [h1]
  have hD1:(s.heap.update kS (Obj.mapSeq fun _=>(#[]:Array Value))).get? D = some (seqObj "list" #[] e1):=(Heap.get?_update_ne _ _ _ _ ne.symm).trans hoD
  refine wpAny_bind (listUpdate_at ho rfl ?_ zs (Nat.zero_le _))
  refine wpAny_bind (wpAny_letGo (wpAny_bind (seqEpoch_at hD1 rfl ?_)))
  refine wpAny_bind (listUpdate_at hD1 rfl ?_ (Nat.zero_le _) (by simp only [Bool.false_eq_true,if_false]; rw [List.size_toArray,sizeLine_eq]; omega))
  rw [h3]
  simp only [bne_self_eq_false,Bool.false_eq_true,if_false]
  refine wpAny_pure (h _ ?_)
  have Ia:=I.lstUpd (ys:=[]) (its':=[]) (f:=Obj.mapSeq fun _=>(#[]:Array Value)) hS ho rfl .nil (Nat.zero_le _) s.toks
  have hDa:(upd H kS (.lst [])) D = some (.frz (seqObj "list" #[] e1) (.lst [])):=by rw [am ne.symm]; exact hD
  have Ib:=Ia.thaw hDa nf
  have hDb:(upd (upd H kS (.lst [])) D (.lst [])) D = some (.lst []):=aC
  have Ic:=Ib.lstUpd (ys:=out) (its:=[]) (its':=outv) (n:=e1) (f:=Obj.mapSeq fun _=>outv.toArray) hDb hD1 rfl ro (by rw [ro.length,sizeLine_eq]; omega) s.toks
  rw [yg] at Ic
  exact Ic
 unfold ksk_end
 simp only [Bool.false_eq_true,if_false]
 rcases sr s I.hok with ⟨h2,rfl⟩ | ⟨h2,p,hp,rfl⟩
 ·have h2':outv.toArray.size < 2:=by rw [List.size_toArray]; exact h2
  rw [if_pos h2',if_pos h2']
  refine wpAny_bind (wpAny_pure ?_)
  rw [StateT.run_pure]
  refine wpAny_bind (wpAny_pure ?_)
  refine tail (SortSt.mk' general' (us.toArray.zip outv.toArray) #[] 7 none) ?_ rfl
  show (us.toArray.zip outv.toArray).map (·.2) = outv.toArray
  apply Array.toList_inj.mp
  rw [Array.toList_map,ksk_zip]
  simp [List.map_snd_zip,hl]
 ·have h2':¬ vs.toArray.size < 2:=by rw [List.size_toArray]; omega
  rw [if_neg h2',if_neg h2']
  refine wpAny_bind (wpAny_mono (hp (fun st' s'=>p.size = vs.length ∧ arrOf st' = p.map (kas_item (us.toArray.zip vs.toArray)) ∧ failedOf st' = none ∧ s' = s) E fun st' q1 q2 q3=>⟨q1,q2,q3,rfl⟩) (fun κ s' hk=>wpAny_bind (wpAny_mono hk ?_ fun _ _ x=>x)) fun _ _ x=>x)
  rintro ⟨⟨⟩,st'⟩ s'' ⟨q1,q2,q3,rfl⟩
  exact tail st' (kat_snds hl q2) q3
theorem v9 {k:Nat} {f D kS:Addr} {ps:List Str} {sp:Sp} {EX:XK} {e1:Nat} {P:PySem.Fin → Shared → Prop} {vs:List Value} {Fin:List V → Hp → Prop}
  (F:db X.prog X.w X.K X.mg X.base fT k f fd ps sp) (hr:bQ k A) (henv:∀ s H,m7 X.prog X.w X.K X.mg X.base X.A X.stack s H → m7 X.prog X.w X.K X.mg X.base A X.stack s H) (hb:dH X.K fd ps []) (I:aG X pins σ H s) (rv:aN xs vs) (h64:vs.length < 64) (ho:s.heap.get? kS = some (seqObj "list" #[] 0)) (hS:H kS = some (.lst [])) (hD:H D = some (.frz (seqObj "list" #[] e1) (.lst [])))
  (h:mK sp EX D kS (seqObj "list" #[] e1) Fin xs [] H)
  (fin:∀ ks us H' s' n,aG X pins σ H' s' → H' D = some (.frz (seqObj "list" #[] e1) (.lst [])) → H' kS = some (.lst ks) → s'.heap.get? kS = some { cls:=.type "list",data:=.seq us.toArray n } → aN ks us → us.length = vs.length → Fin ks H' → wpAny (model X.prog X.w) A (ksk_end D false vs.toArray e1 (.ref kS) us.toArray) P E s') :
  wpAny (model X.prog X.w) A (ksk_rest D (.ref f) false vs.toArray e1 (.ref kS)) P E s:=by
 unfold ksk_rest
 refine wpAny_bind (wpAny_rule ?_)
 first
  | rw [List.forIn_toArray]
  | (rw [← Array.forIn_toList]; simp only [List.toList_toArray])
 have hxl:=rv.length
 refine wpAny_bind (ksk_fold (fun i s'=>∃ H' ks,aG X pins σ H' s' ∧ H' D = some (.frz (seqObj "list" #[] e1) (.lst [])) ∧ H' kS = some (.lst ks) ∧ ks.length = i ∧ mK sp EX D kS (seqObj "list" #[] e1) Fin (xs.drop i) ks H') vs 0 s
  ⟨H,[],I,hD,hS,rfl,h⟩ ?step ?done)
 case step =>
  rintro j x s' hx ⟨H',ks,I',hD',hS',hk,hg⟩
  simp only [Nat.zero_add] at hk hg ⊢
  have hj:j < vs.length:=(List.getElem?_eq_some_iff.mp hx).1
  obtain ⟨x0,hx0⟩:∃ x0,xs[j]? = some x0:=⟨_,List.getElem?_eq_getElem (by omega)⟩
  have rx:aO x0 x:=by
   have q:=l0 j rv
   rw [List.getD_eq_getElem?_getD,List.getD_eq_getElem?_getD,hx0,hx] at q
   exact q
  have ed:xs.drop j = x0 :: xs.drop (j + 1):=by
   obtain ⟨hjj,e⟩:=List.getElem?_eq_some_iff.mp hx0
   rw [← e]; exact List.drop_eq_getElem_cons hjj
  rw [ed] at hg
  obtain ⟨QQ,hQQ⟩:∃ QQ:VK,QQ = fun k H'=>H' D = some (.frz (seqObj "list" #[] e1) (.lst [])) ∧ H' kS = some (.lst ks) ∧ mK sp EX D kS (seqObj "list" #[] e1) Fin (xs.drop (j + 1)) (ks ++ [k]) (upd H' kS (.lst (ks ++ [k]))):=⟨_,rfl⟩
  have hg:sp [x0] H' QQ EX:=by rw [hQQ]; exact hg
  have hln:=F.len _ _ _ _ hg
  refine wpAny_bind (wpAny_attempt (wpAny_mono (Q:=EP X pins σ QQ) (E:=fun _ _=>False) (wpAny_call (codeAny_mono (F.run A X.stack s' H' ⟨[x],[]⟩ [x] [x0] QQ EX hr (henv s' H' I'.env0) (by have:=hb s' [x] I'.kIn (by simpa using hln); simpa using this) (.cons rx .nil) hg) fun r s2 hq=>?_)) (fun u s2 hu=>?_) fun _ _ q=>q.elim))
  ·cases r with
   | error e=>exact hq
   | ok fl =>
    cases fl with
    | ret u=>exact I'.after hq
    | next=>exact False.elim hq
    | brk=>exact False.elim hq
    | cont=>exact False.elim hq
  ·obtain ⟨v,H2,I2,ru,hu⟩:=hu
   rw [hQQ] at hu
   obtain ⟨hD2,hS2,g2⟩:=hu
   obtain ⟨its,n,rk,ho2,z⟩:=I2.lst hS2
   have hkl:=rk.length
   dsimp only
   refine wpAny_bind (listUpdate_at ho2 rfl ?_ (by rw [List.size_toArray,sizeLine_eq]; omega) (by rw [Array.size_push,List.size_toArray,sizeLine_eq]; omega))
   have I3:=I2.lstUpd (ys:=ks ++ [v]) (its':=its ++ [u]) (f:=Obj.mapSeq (·.push u)) hS2 ho2 (by simp [Obj.mapSeq]; rfl) (rk.append (.cons ru .nil)) (by rw [List.length_append,List.length_singleton,sizeLine_eq]; omega) s2.toks
   refine wpAny_pure ⟨rfl,_,ks ++ [v],I3,?_,aC,by simp [hk],g2⟩
   rw [am fun z=>by rw [z,hS2] at hD2; cases hD2]; exact hD2
 case done =>
  rintro s' ⟨H',ks,I',hD',hS',hk,hg⟩
  simp only [Nat.zero_add] at hk hg
  obtain ⟨its,n,rk,ho2,z⟩:=I'.lst hS'
  have hkl:=rk.length
  rw [← hxl,List.drop_length] at hg
  refine wpAny_bind (listItems_at ho2 rfl ?_)
  exact fin ks its H' s' n I' hD' hS' ho2 rk (by omega) hg
theorem wa {k:Nat} {f a:Addr} {ps:List Str} {sp:Sp} {EX:XK} {Q:VK} (F:db X.prog X.w X.K X.mg X.base fT k f fd ps sp) (hc:X.calm = true) (hr:bQ (k + 2) X.A) (hb:dH X.K fd ps []) (I:aG X pins σ H s) (src:uh X.w H a xs) (h64:xs.length < 64)
  (h:∀ D kS ob,H D = none → H kS = none → kS ≠ D → mK sp EX D kS ob (fun ks H2=>∃ out,f7 H2 ks xs out ∧ H2 D = some (.frz ob (.lst [])) ∧ H2 kS = some (.lst ks) ∧ Q (.ref D) (upd (upd H2 kS (.lst [])) D (.lst out))) xs [] (upd (upd H D (.frz ob (.lst []))) kS (.lst []))) :
  wpAny (model X.prog X.w) X.A (call (.builtin "sorted") [.ref a] [(Str.ofString "key",.ref f)]) (EP X pins σ Q) X.xe s:=by
 have hh:=I.ok.hd hc
 refine call_function_entry_kw kind_sorted plain_sorted entry_sorted (ksk_s1 _ _) ?_
 unfold Builtin.«sorted»
 refine wpAny_bind (m:=checkCount "sorted" 1 1 _) (wpAny_pure (wpAny_bind (Dh I src _ _ _ hh fun vs g tk rv kg=>?_)))
 have hl:=rv.length
 have few:vs.length ≤ sizeLine:=by rw [sizeLine_eq]; omega
 refine wpAny_bind (wpAny_newList ?_ few)
 have hoL:(g.push (seqObj "list" vs.toArray 0)).get? g.objs.size = some (seqObj "list" vs.toArray 0):=Heap.get?_push_size _ rfl
 have I1:aG X pins σ H { s with heap:=g,toks:=tk }:=I.kept kg
 have nD:∀ b ob,g.get? b = some ob → b ≠ g.objs.size:=fun b ob e=>Nat.ne_of_lt (Heap.lt_size e)
 show wpAny _ _ _ _ _ { s with heap:=g.push (seqObj "list" vs.toArray 0),toks:=tk }
 refine wpAny_bind (wpAny_holding (wpAny_call_entry_kw slot_list_sort ⟨_,hoL,rfl⟩ entry_list_sort ?_ (ksk_l1 _ _)))
 rw [ksk_t1]
 obtain ⟨e1,ho1⟩:∃ e1,((g.push (seqObj "list" vs.toArray 0)).update g.objs.size (Obj.mapSeq fun _=>(#[]:Array Value))).get? g.objs.size = some (seqObj "list" #[] e1):=⟨_,get?_update_seq hoL fun _=>#[]⟩
 unfold ksk_tree
 refine wpAny_bind (listItems_at hoL rfl (wpAny_bind (listUpdate_at hoL rfl (wpAny_bind (seqEpoch_at ho1 rfl (wpAny_bind (wpAny_newTuple (wpAny_bind (wpAny_newList (wpAny_holding ?_) (Nat.zero_le _))) few)))) (by rw [List.size_toArray]; exact few) (Nat.zero_le _))))
 have fD:H g.objs.size = none:=I1.hok.fresh (Nat.le_refl _)
 have Ia:aG X pins σ (upd H g.objs.size (.lst [])) { s with heap:=(g.push (seqObj "list" vs.toArray 0)).update g.objs.size (Obj.mapSeq fun _=>(#[]:Array Value)),toks:=tk } :=
  I1.laid (a:=g.objs.size) (o:=.lst []) (t':=tk) (fun b ob e=>(Heap.get?_update_ne _ _ _ _ (nD b ob e)).trans (Heap.get?_push_of_some _ e)) (Nat.le_refl _) ⟨Nat.zero_le _,[],e1,.nil,ho1⟩
 have nf:=Ia.noFrz aC
 have Ib:aG X pins σ (upd (upd H g.objs.size (.lst [])) g.objs.size (.frz (seqObj "list" #[] e1) (.lst []))) { s with heap:=(g.push (seqObj "list" vs.toArray 0)).update g.objs.size (Obj.mapSeq fun _=>(#[]:Array Value)),toks:=tk } :=
  Ia.ghost aC (fun _ z=>nomatch z) (fun _ z=>nomatch z) (fun _ z=>nomatch z) nf ⟨ho1,Nat.zero_le _,[],e1,.nil,ho1⟩
 rw [yg] at Ib
 have Ic:=Ib.kept (h':=((g.push (seqObj "list" vs.toArray 0)).update g.objs.size (Obj.mapSeq fun _=>(#[]:Array Value))).push (seqObj "tuple" vs.toArray 0)) (t':=tk) fun _ _ e=>Heap.get?_push_of_some _ e
 have hk0:(((g.push (seqObj "list" vs.toArray 0)).update g.objs.size (Obj.mapSeq fun _=>(#[]:Array Value))).push (seqObj "tuple" vs.toArray 0) |>.push (seqObj "list" #[] 0)).get? (((g.push (seqObj "list" vs.toArray 0)).update g.objs.size (Obj.mapSeq fun _=>(#[]:Array Value))).push (seqObj "tuple" vs.toArray 0)).objs.size = some (seqObj "list" #[] 0):=Heap.get?_push_size _ rfl
 have Id:=Ic.laid (a:=(((g.push (seqObj "list" vs.toArray 0)).update g.objs.size (Obj.mapSeq fun _=>(#[]:Array Value))).push (seqObj "tuple" vs.toArray 0)).objs.size) (h':=(((g.push (seqObj "list" vs.toArray 0)).update g.objs.size (Obj.mapSeq fun _=>(#[]:Array Value))).push (seqObj "tuple" vs.toArray 0)).push (seqObj "list" #[] 0)) (o:=.lst []) (t':=tk)
  (fun _ _ e=>Heap.get?_push_of_some _ e) (Nat.le_refl _) ⟨Nat.zero_le _,[],0,.nil,hk0⟩
 have fK:=Ic.hok.fresh (Nat.le_refl _)
 have nk:(((g.push (seqObj "list" vs.toArray 0)).update g.objs.size (Obj.mapSeq fun _=>(#[]:Array Value))).push (seqObj "tuple" vs.toArray 0)).objs.size ≠ g.objs.size:=fun z=>by rw [z,aC] at fK; cases fK
 have fK':H (((g.push (seqObj "list" vs.toArray 0)).update g.objs.size (Obj.mapSeq fun _=>(#[]:Array Value))).push (seqObj "tuple" vs.toArray 0)).objs.size = none:=by rw [am nk] at fK; exact fK
 refine v9 F (A:=X.A.in1.in1) hr.in1.in1 (fun _ _ e=>e.in1.in1) hb Id rv (by omega) hk0 aC (by rw [am nk.symm]; exact aC) (h _ _ _ fD fK' nk) fun ks us H' s' n I' hD' hS' ho' rk hl2 ⟨out,so,h1,h2,q⟩=>?_
 exact xH I' nf hD' hS' ho' rk rv hl2 (by omega) so fun s2 I2=>⟨_,rfl,wpAny_pure ⟨_,rfl,.ref _,_,I2,rfl,q⟩⟩
theorem AD {k:Nat} {f:Addr} {ps:List Str} {sp:Sp} {EX:XK} {e:Expr} {te:TE} {x:Str} {p p1 kp pos:Pos} (F:db X.prog X.w X.K X.mg X.base fT k f fd ps sp) (hc:X.calm = true) (hr:bQ (k + 2) X.A) (hb:dH X.K fd ps []) (hm:X.mg x = some (.ref f)) (hms:X.mg "sorted" = none) (he:PE X e te)
  (hg:Gl X x:=by with_unfolding_all rfl) (hdb:(x == ("__debug__":Str)) = false:=by decide) (hgs:Gl X "sorted":=by with_unfolding_all rfl) (hst:starEach [e] X.env = (false,eval e X.env) :: starEach [] X.env:=by with_unfolding_all rfl) :
  PE X (.Call (.Name "sorted" p) [e] [⟨some "key",.Name x p1,kp⟩] pos) (zl X.w sp EX te):=by
 intro pins s σ H Q I h
 refine wpAny_Call_Name_kw (lF I hgs hms cw ?_)
 refine callWith_builtin_kwB (by rw [hst]; rfl) (by rfl) (evalArgs_kw2 (by rfl) ?_ hst)
 have ha:PA X [e] (oq te oo):=fW he jJ hst
 refine bw (ha pos pins s σ H (fun vs H1=>match vs with
  | [v]=>∃ a xs,v = .ref a ∧ uh X.w H1 a xs ∧ xs.length < 64 ∧ ∀ D kS ob,H1 D = none → H1 kS = none → kS ≠ D →
   mK sp EX D kS ob (fun ks H2=>∃ out,f7 H2 ks xs out ∧ H2 D = some (.frz ob (.lst [])) ∧ H2 kS = some (.lst ks) ∧ Q (.ref D) (upd (upd H2 kS (.lst [])) D (.lst out))) xs [] (upd (upd H1 D (.frz ob (.lst []))) kS (.lst []))
  | _=>False) I h) fun us s1 ⟨vs,H1,I1,rv,q1⟩=>?_
 match vs,q1 with
 | [v],⟨a,xs,ev,src,h64,q⟩ =>
 subst ev
 obtain ⟨u,rfl,ru⟩:=iH rv
 cases ru
 show wpAny _ _ (evalAll [do let v ← eval (.Name x p1) X.env; standAt pos; pure v]) _ _ s1
 refine wpAny_evalAll_cons (wpAny_bind (gU I1 hg hm ?_ hdb))
 refine wpAny_bind (wpAny_standAt (wpAny_pure (wpAny_evalAll_nil ?_)))
 exact wa F hc hr hb I1 src h64 q
end
end L2
namespace RB
open PySem L2 PySem.W
def wb:List (AV × AV) → List AV
 | []=>[]
 | (k,_) :: r=>k :: wb r
def Dj (S:aT) (x:AV):Option (List AV):=match lV x with
 | some xs=>some xs
 | none=>match x with
  | .ref n=>match S.t.get n with
   | some (.lst xs)=>some xs
   | some (.dk kvs)=>some (wb kvs)
   | _=>none
  | _=>none
def wc (tp:Bool):List AV → Option (List AV)
 | []=>some []
 | x :: r=>match wc tp r with
  | some ns=>match tp,x with
   | false,.int s lo hi=>some (.int s lo hi :: ns)
   | true,.tc (.int s lo hi) _=>some (.int s lo hi :: ns)
   | _,_=>none
  | none=>none
def J0 (a b:AV):Option Bool:=match a,b with
 | .int s lo hi,.int s' lo' hi'=>F7 s lo hi s' lo' hi'
 | _,_=>none
def HP (tp:Bool) (ns:List AV) (i j:Nat):Option Bool:=match ns[i]?,ns[j]? with
 | some a,some b=>match J0 a b with
  | some true=>some true
  | some false=>match tp with
   | false=>some false
   | true=>match J0 b a with
    | some true=>some false
    | _=>none
  | none=>none
 | _,_=>none
def Dk (xs:List AV):List Nat → List AV
 | []=>[]
 | i :: r=>xs.getD i .non :: Dk xs r
def Jy:List AV → Bool
 | .tc _ _ :: _=>true
 | _=>false
def sA (ks xs:List AV):Option (List AV):=match Nat.blt xs.length 2 with
 | true=>some xs
 | false=>match Nat.blt xs.length 64 with
  | false=>none
  | true=>match wc (Jy ks) ks with
   | some ns=>match uf (HP (Jy ks) ns) (kas_sort xs.length) with
    | some p=>match Nat.ble p.size 64 with
     | true=>some (Dk xs p.toList)
     | false=>none
    | none=>none
   | none=>none
section
variable {S:aT}
theorem ui:∀ {kvs:List (AV × AV)} {ks:List (bj × V)},Paired (fun p q=>gG p.1 q.1 ∧ aY F y ρ H p.2 q.2) kvs ks → aX F y ρ H (wb kvs) (ks.map fun p=>kV p.1)
 | _,_,.nil=>.nil
 | _,_,.cons (a:=(k,v)) h t=>.cons (oW h.1) (ui t)
theorem zm (w:World) (C:aM g F y ρ S H) {ax:AV} {x:V} (rx:aY F y ρ H ax x) {xs:List AV} (h:Dj S ax = some xs):∃ a vs,x = .ref a ∧ uh w H a vs ∧ aX F y ρ H xs vs:=by
 unfold Dj at h
 split at h
 ·rename_i ys q
  cases h
  obtain ⟨a,vs,rfl,ha,pr⟩:=f6 rx q
  exact ⟨a,vs,rfl,.tup ha,pr⟩
 ·split at h
  ·rename_i n _
   split at h
   ·rename_i ys q
    cases h
    obtain ⟨a,ho,rfl,_,ha,vs,rfl,pr⟩:=C.obj rx q
    exact ⟨a,vs,rfl,.lst ha,pr⟩
   ·rename_i kvs q
    cases h
    obtain ⟨a,ks,rfl,_,ha,pr⟩:=C.dk rx q
    exact ⟨a,_,rfl,.dk ha,ui pr⟩
   ·cases h
  ·cases h
theorem xI (hy:∀ x,y = some x → 1 ≤ x) {a b:AV} {i j:Int} {c:Bool} (h1:aY F y ρ H a (.int i)) (h2:aY F y ρ H b (.int j)) (h:J0 a b = some c):decide (i < j) = c:=by
 unfold J0 at h
 split at h
 ·obtain ⟨z,e,b1⟩:=bF.mp h1
  obtain ⟨z',e',b2⟩:=bF.mp h2
  cases e; cases e'
  exact xq hy b1 b2 h
 ·cases h
theorem zn {tp:Bool}:∀ {ks ns:List AV} {vs:List V},aX F y ρ H ks vs → wc tp ks = some ns → ∃ kz,Dc H tp kz vs ∧ aX F y ρ H ns (kz.map V.int)
 | _,_,_,.nil,h=>by cases h; exact ⟨[],.nil,.nil⟩
 | x :: r,ns,_,.cons r0 t,h=>by
  unfold wc at h
  cases q:wc tp r with
  | none=>simp only [q] at h; cases h
  | some ms =>
   simp only [q] at h
   obtain ⟨kz,h1,h2⟩:=zn t q
   cases tp with
   | false =>
    cases x with
    | int s lo hi =>
     cases h
     obtain ⟨z,rfl,b1⟩:=bF.mp r0
     exact ⟨z :: kz,.cons rfl h1,.cons r0 h2⟩
    | _=>cases h
   | true =>
    cases x with
    | tc hd tl =>
     cases hd with
     | int s lo hi =>
      cases h
      obtain ⟨a,w,ws,rfl,ha,hw,_⟩:=r0
      obtain ⟨z,rfl,b1⟩:=bF.mp hw
      exact ⟨z :: kz,.cons ⟨a,ws,rfl,ha⟩ h1,.cons hw h2⟩
     | _=>cases h
    | _=>cases h
theorem Jz {kz:List Int} {i:Nat} {v:V} (h:(kz.map V.int)[i]? = some v):∃ k,kz[i]? = some k ∧ v = .int k:=by
 rw [List.getElem?_map] at h
 cases e:kz[i]? with
 | none=>rw [e] at h; cases h
 | some k=>rw [e] at h; cases h; exact ⟨k,rfl,rfl⟩
theorem HQ {tp:Bool} (hy:∀ x,y = some x → 1 ≤ x) {ns:List AV} {kz:List Int} (h:aX F y ρ H ns (kz.map V.int)) {i j:Nat} {b:Bool} (e:HP tp ns i j = some b):xG tp kz i j = some b:=by
 unfold HP at e
 split at e
 ·rename_i a c e1 e2
  obtain ⟨v,g1,r1⟩:=dO h e1
  obtain ⟨u,g2,r2⟩:=dO h e2
  obtain ⟨k1,q1,rfl⟩:=Jz g1
  obtain ⟨k2,q2,rfl⟩:=Jz g2
  unfold xG
  rw [q1,q2]
  dsimp only
  split at e
  ·rename_i l
   cases e
   have:=xI hy r1 r2 l
   simp at this
   rw [if_neg (by omega)]
   simp [this]
  ·rename_i l
   have z:=xI hy r1 r2 l
   simp at z
   cases tp with
   | false=>cases e; simp; omega
   | true =>
    dsimp only at e
    split at e
    ·rename_i l2
     cases e
     have z2:=xI hy r2 r1 l2
     simp at z2
     rw [if_neg (by omega)]
     simp; omega
    ·cases e
  ·cases e
 ·cases e
theorem sB {α:Type} {f f':Nat → Nat → Option Bool} (h:∀ i j b,f i j = some b → f' i j = some b):∀ (t:KasT α) {a:α},uf f t = some a → uf f' t = some a
 | .ret _,_,e=>e
 | .ask i j k,a,e=>by
  unfold uf at e ⊢
  cases q:f i j with
  | none=>rw [q] at e; cases e
  | some b=>rw [q] at e; rw [h i j b q]; exact sB h (k b) e
theorem AE {xs:List AV} (r:aX F y ρ H xs vs) (i:Nat):aY F y ρ H (xs.getD i .non) (vs.getD i .non):=by
 rw [List.getD_eq_getElem?_getD,List.getD_eq_getElem?_getD]
 cases e:xs[i]? with
 | none =>
  have hl:=aR r
  have:vs[i]? = none:=List.getElem?_eq_none_iff.mpr (by rw [← hl]; exact List.getElem?_eq_none_iff.mp e)
  rw [this]; rfl
 | some a =>
  obtain ⟨v,e2,rv⟩:=dO r e
  rw [e2]; exact rv
theorem wd {xs:List AV} {vs:List V} (r:aX F y ρ H xs vs):∀ l:List Nat,aX F y ρ H (Dk xs l) (l.map fun i=>vs.getD i .non)
 | []=>.nil
 | i :: l=>.cons (AE r i) (wd r l)
theorem we (hy:∀ x,y = some x → 1 ≤ x) {ks xs out:List AV} {us vs:List V} (rk:aX F y ρ H ks us) (r:aX F y ρ H xs vs) (h:sA ks xs = some out):∃ outv,f7 H us vs outv ∧ aX F y ρ H out outv:=by
 have hl:=aR r
 unfold sA at h
 split at h
 ·rename_i q
  cases h
  have q:xs.length + 1 ≤ 2:=bO q
  exact ⟨vs,.inl ⟨by omega,rfl⟩,r⟩
 ·rename_i q
  have q:2 ≤ xs.length:=by
   rcases Nat.lt_or_ge xs.length 2 with z | z
   ·have:Nat.blt xs.length 2 = true:=by simp [Nat.blt_eq]; exact z
    rw [this] at q; cases q
   ·exact z
  split at h
  ·cases h
  ·split at h
   ·rename_i ns qn
    split at h
    ·rename_i p qp
     split at h
     ·rename_i qz
      cases h
      obtain ⟨kz,h1,h2⟩:=zn rk qn
      refine ⟨_,.inr ⟨by omega,_,kz,p,h1,?_,bO qz,rfl⟩,wd r _⟩
      rw [← hl]
      exact sB (fun i j b e=>HQ hy h2 e) _ qp
     ·cases h
    ·cases h
   ·cases h
def hU:List AV → aT → (AV → aT → Bool) → Bool:=fun xs S k=>match xs with
 | [x]=>match Dj S x with
  | some ys=>match Nat.blt ys.length 64 with
   | true=>match sA ys ys with
    | some out=>k (.ref S.n) (S.add (.lst out))
    | none=>false
   | false=>false
  | none=>false
 | _=>false
theorem fM:nj g (zk w) hU:=by
 intro F y ρ S H xs axs k Q C rx h p
 unfold hU at h
 split at h
 ·rename_i x
  split at h
  ·rename_i ys q
   split at h
   ·rename_i q2
    split at h
    ·rename_i out q3
     cases rx with | cons r0 t=>cases t with | nil =>
     obtain ⟨a,vs,rfl,src,pr⟩:=zm w C r0 q
     obtain ⟨outv,so,ro⟩:=we C.pos pr pr q3
     have hl:=aR pr
     have q2:ys.length + 1 ≤ 64:=bO q2
     refine ⟨a,vs,outv,rfl,src,by omega,so,fun pl hp=>?_⟩
     have st:aD F y ρ H y (ρ ++ [pl]) (upd H pl (.lst outv)):=aD.add hp
     exact p y _ _ _ (.ref S.n) _ st (C.add (o:=.lst out) hp ⟨outv,rfl,aX.mono st ro⟩) ⟨pl,by rw [C.n]; simp,rfl⟩ h
    ·cases h
   ·cases h
  ·cases h
 ·cases h
def uj:List AV → aT → (AV → aT → Bool) → Bool:=fun xs S k=>match xs with
 | [.ref n]=>match S.t.get n with
  | some (.dk kvs)=>k (.ref S.n) (S.add (.lst (wb kvs)))
  | _=>false
 | _=>false
theorem sC:nj g Di uj:=by
 intro F y ρ S H xs axs k Q C rx h p
 unfold uj at h
 split at h
 ·rename_i n
  split at h
  ·rename_i kvs q
   cases rx with | cons r0 t=>cases t with | nil =>
   obtain ⟨a,ks,rfl,_,ha,pr⟩:=C.dk r0 q
   refine ⟨a,ks,rfl,ha,fun pl hp=>?_⟩
   have st:aD F y ρ H y (ρ ++ [pl]) (upd H pl (.lst (ks.map fun p=>kV p.1))):=aD.add hp
   exact p y _ _ _ (.ref S.n) _ st (C.add (o:=.lst (wb kvs)) hp ⟨_,rfl,aX.mono st (ui pr)⟩) ⟨pl,by rw [C.n]; simp,rfl⟩ h
  ·cases h
 ·cases h
end
end RB
namespace RB
open PySem PySem.Spec PyProof.Rows L2 PySem.W
section
variable {y y1 y2:Option Int} {ρ ρ1 ρ2:List Addr} {H H1 H2:Hp} {S S1:aT}
theorem aM.over (C:aM g F y ρ S H) (e:∀ b ∈ ρ,H1 b = H b) (t:∀ b vs,H b = some (.tup vs) → H1 b = some (.tup vs)) (o:∀ b,F.own b → H1 b = H b) (x:∀ b φ,H b = some (.ext φ) → H1 b = some (.ext φ)):aM g F y ρ S H1:=by
 refine ⟨C.n,C.sym,C.pos,C.nd,fun i c ec=>?_,C.own,C.fe,fun b w ec=>C.ol b w (by rw [← o b w]; exact ec),F.st _ _ C.J fun b u w ec=>?_,C.fl⟩
 ·obtain ⟨ob,ho,h1,h2,h3⟩:=C.at_ i c ec
  exact ⟨ob,ho,h1,by rw [e c (List.mem_of_getElem? ec)]; exact h2,fV.monoM ⟨fun _ h=>h,fun h=>h,t⟩ h3⟩
 ·rcases w with w | ⟨φ,rfl⟩
  ·rw [o b w]; exact ec
  ·exact x b φ ec
theorem aD.over (st:aD F y ρ H y1 ρ1 H1) {a:Addr} {o:HO} (e:H a = none):aD F y ρ H y1 ρ1 (upd H1 a o):=by
 have ne:∀ b u,H b = some u → b ≠ a:=fun b u q z=>by rw [z,e] at q; cases q
 refine ⟨st.y,st.pre,st.new,fun b u q n w=>?_,fun b vs q=>?_,fun b q=>?_,fun b o' u q=>?_⟩
 ·rw [am (ne b _ q)]; exact st.keep b u q n w
 ·rw [am (ne b _ q)]; exact st.tup b vs q
 ·by_cases z:b = a
  ·rw [z]; exact e
  ·rw [am z] at q; exact st.live b q
 ·rw [am (ne b _ q)]; exact st.frz b o' u q
theorem aD.more (st:aD F y ρ H y1 ρ1 H1) {a:Addr} (e:H a = none):aD F y ρ H y1 (ρ1 ++ [a]) H1:=by
 refine ⟨st.y,?_,fun b hb=>?_,st.keep,st.tup,st.live,st.frz⟩
 ·obtain ⟨r,rfl⟩:=st.pre
  exact ⟨r ++ [a],by simp⟩
 ·rcases List.mem_append.mp hb with hb | hb
  ·exact st.new b hb
  ·rw [List.mem_singleton.mp hb]; exact .inr e
end
def Dl (f:BF) (ke:KE) (k:List AV → aT → Bool):List AV → List AV → aT → Bool
 | [],ks,S=>k ks S
 | x :: r,ks,S=>f [x] S (fun z S1=>Dl f ke k r (ks ++ [z]) S1) ke
def n8 (f:BF) (a:BE):BE:=fun σ S k=>a σ S fun x S1=>match Dj S1 x with
 | some xs=>match Nat.blt xs.length 64 with
  | true=>Dl f σ.ke (fun ks S2=>match sA ks xs with
   | some out=>k (.ref S2.n) (S2.add (.lst out))
   | none=>false) xs [] S1
  | false=>false
 | none=>false
section
theorem sE {F:Fx} {f:BF} {k:List AV → aT → Bool} {D kS:Addr} {ob:Obj} {Fin:List V → Hp → Prop} {ke:KE} {y0:Option Int} {ρ0:List Addr} {H0:Hp} (e1:H0 D = none) (e2:H0 kS = none) (ne:kS ≠ D) (o1:¬ F.own D) (o2:¬ F.own kS) (pe0:kP g F y0 ρ0 H0 ke)
  (post:∀ y ρ S H ks ksv,aD F y0 ρ0 H0 y ρ H → aM g F y ρ S H → D ∉ ρ → kS ∉ ρ → H D = some (.frz ob (.lst [])) → H kS = some (.lst ksv) → aX F y ρ H ks ksv → k ks S = true → Fin ksv H) :
  ∀ (xs:List AV) (xsv:List V) (ks:List AV) (ksv:List V) (y:Option Int) (ρ:List Addr) (S:aT) (H:Hp),aD F y0 ρ0 H0 y ρ H → aM g F y ρ S H → D ∉ ρ → kS ∉ ρ → H D = some (.frz ob (.lst [])) → H kS = some (.lst ksv) → aX F y ρ H xs xsv → aX F y ρ H ks ksv →
   Dl f ke k xs ks S = true → mK (r8 g.toGy 1 f) g.E D kS ob Fin xsv ksv H
 | _,_,ks,ksv,y,ρ,S,H,st,C,nD,nK,hD,hK,.nil,rk,h=>post y ρ S H ks ksv st C nD nK hD hK rk h
 | _,_,ks,ksv,y,ρ,S,H,st,C,nD,nK,hD,hK,.cons (l₁:=r) (l₂:=rv) r0 t,rk,h=>by
  refine ⟨F,y,ρ,S,[_],_,ke,C,.cons r0 .nil,rfl,h,fun y1 ρ1 S1 H1 az z st1 C1 rz h1=>?_,pe0.mono st⟩
  have hD1:=st1.frz _ _ _ hD
  have hK1:=st1.keep _ _ hK nK o2
  have nD1:D ∉ ρ1:=fun m=>by
   rcases st1.new D m with q | q
   ·exact nD q
   ·rw [hD] at q; cases q
  have nK1:kS ∉ ρ1:=fun m=>by
   rcases st1.new kS m with q | q
   ·exact nK q
   ·rw [hK] at q; cases q
  refine ⟨hD1,hK1,?_⟩
  have mo:Mo y1 ρ1 H1 y1 ρ1 (upd H1 kS (.lst (ksv ++ [z]))):=⟨fun _ h=>h,fun h=>h,fun b vs q=>by rw [am fun w=>by rw [w,hK1] at q; cases q]; exact q⟩
  have C2:aM g F y1 ρ1 S1 (upd H1 kS (.lst (ksv ++ [z]))):=C1.over (fun b hb=>am fun w=>nK1 (w ▸ hb)) mo.tup (fun b w=>am fun q=>o2 (q ▸ w)) (fun b φ q=>by rw [am fun w=>by rw [w,hK1] at q; cases q]; exact q)
  refine sE e1 e2 ne o1 o2 pe0 post r rv (ks ++ [az]) (ksv ++ [z]) y1 ρ1 S1 _ ((st.trans st1).over e2) C2 nD1 nK1 (by rw [am ne.symm]; exact hD1) aC ?_ ?_ h1
  ·exact a0 (fun _ _ q=>aY.monoM mo q) (aX.mono st1 t)
  ·exact c3 (a0 (fun _ _ q=>aY.monoM mo q) (aX.mono st1 rk)) (.cons (aY.monoM mo rz) .nil)
end
section
variable {e:Expr} {ba:BE} {pos p p1 kp:Pos} {x:Str} {k:Nat} {f:BF}
theorem xJ:∀ σ H Q,up g (n8 f ba) σ H Q → zl w (r8 g.toGy 1 f) g.E (up g ba) σ H Q:=fun σ H Q ⟨F,y,ρ,S,σa,k,C,r,h,p⟩ =>
 ay C r h fun y1 ρ1 S1 H1 ax x st C1 r1 rx h1=>by
  cases q:Dj S1 ax with
  | none=>simp only [q] at h1; cases h1
  | some xs =>
   simp only [q] at h1
   split at h1
   ·rename_i q2
    obtain ⟨a,vs,rfl,src,pr⟩:=zm w C1 rx q
    have hl:=aR pr
    have q2:xs.length + 1 ≤ 64:=bO q2
    refine ⟨a,vs,rfl,src,by omega,fun D kS ob e1 e2 ne=>?_⟩
    have o1:¬ F.own D:=fun w=>C1.ol D w e1
    have o2:¬ F.own kS:=fun w=>C1.ol kS w e2
    have eK:(upd H1 D (.frz ob (.lst []))) kS = none:=by rw [am ne]; exact e2
    have stA:aD F y1 ρ1 H1 y1 ρ1 (upd (upd H1 D (.frz ob (.lst []))) kS (.lst [])):=(aD.lay e1).trans (aD.lay eK)
    have CA:aM g F y1 ρ1 S1 (upd (upd H1 D (.frz ob (.lst []))) kS (.lst [])):=(C1.lay e1).lay eK
    refine sE (k:=fun ks S2=>match sA ks xs with
     | some out=>k (.ref S2.n) (S2.add (.lst out))
     | none=>false) e1 e2 ne o1 o2 r1.e ?_ xs vs [] [] y1 ρ1 S1 _ stA CA (C1.fresh e1) (C1.fresh e2) (by rw [am ne.symm]; exact aC) aC (aX.mono stA pr) .nil h1
    intro y2 ρ2 S2 H2 ks ksv st2 C2 nD nK hD hK rk h2
    cases q3:sA ks xs with
    | none=>simp only [q3] at h2; cases h2
    | some out =>
     simp only [q3] at h2
     obtain ⟨outv,so,ro⟩:=we C2.pos rk (aX.mono st2 pr) q3
     refine ⟨outv,so,hD,hK,?_⟩
     have stF:aD F y1 ρ1 H1 y2 (ρ2 ++ [D]) (upd (upd H2 kS (.lst [])) D (.lst outv)):=((st2.over e2).over e1).more e1
     have tD:∀ b o,H2 b = some o → (∀ o' u,o ≠ .frz o' u) → b ≠ D:=fun b o q n w=>by rw [w,hD] at q; cases q; exact n _ _ rfl
     have tK:∀ b o,H2 b = some o → (∀ u,o ≠ .lst u) → b ≠ kS:=fun b o q n w=>by rw [w,hK] at q; cases q; exact n _ rfl
     have moF:Mo y2 ρ2 H2 y2 (ρ2 ++ [D]) (upd (upd H2 kS (.lst [])) D (.lst outv)):=⟨fun _ h=>h,fun {i c} h=>by
       rw [List.getElem?_append_left (List.getElem?_eq_some_iff.mp h).1]; exact h,fun b vs q=>by
       rw [am (tD b _ q fun _ _ z=>nomatch z),am (tK b _ q fun _ z=>nomatch z)]; exact q⟩
     have roF:aX F y2 (ρ2 ++ [D]) (upd (upd H2 kS (.lst [])) D (.lst outv)) out outv:=a0 (fun _ _ q=>aY.monoM moF q) ro
     have CB:aM g F y2 ρ2 S2 (fun b=>if b = D then none else (upd H2 kS (.lst [])) b):=C2.over
      (fun b hb=>(if_neg fun w=>nD (by rw [← w]; exact hb)).trans (am fun w=>nK (by rw [← w]; exact hb)))
      (fun b vs q=>by rw [if_neg (tD b _ q fun _ _ z=>nomatch z),am (tK b _ q fun _ z=>nomatch z)]; exact q)
      (fun b w=>(if_neg fun q=>o1 (by rw [← q]; exact w)).trans (am fun q=>o2 (by rw [← q]; exact w)))
      (fun b φ q=>by rw [if_neg (tD b _ q fun _ _ z=>nomatch z),am (tK b _ q fun _ z=>nomatch z)]; exact q)
     have eq:upd (fun b=>if b = D then none else (upd H2 kS (.lst [])) b) D (.lst outv) = upd (upd H2 kS (.lst [])) D (.lst outv):=by
      funext b
      by_cases z:b = D
      ·subst z; rw [aC,aC]
      ·rw [am z,am z]; simp [z]
     have CF:=CB.add (p:=D) (o:=.lst out) (ho:=.lst outv) (by simp) (by rw [eq]; exact ⟨outv,rfl,roF⟩)
     rw [eq] at CF
     exact p y2 _ _ _ (.ref S2.n) _ (st.trans stF) CF ⟨D,by rw [C2.n]; simp,rfl⟩ h2
   ·cases h1
theorem sF (c:vX X.prog X.w X.K X.mg X.base g.toGy fT x k 1 f) (hc:X.calm = true) (hr:bQ (k + 2) X.A) (hms:X.mg "sorted" = none) (he:PE X e (up g ba))
  (hg:Gl X x:=by with_unfolding_all rfl) (hdb:(x == ("__debug__":Str)) = false:=by decide) (hgs:Gl X "sorted":=by with_unfolding_all rfl) (hst:starEach [e] X.env = (false,eval e X.env) :: starEach [] X.env:=by with_unfolding_all rfl) :
  PE X (.Call (.Name "sorted" p) [e] [⟨some "key",.Name x p1,kp⟩] pos) (up g (n8 f ba)):=by
 obtain ⟨fa,fd,ps,hn,F,hm,hk,hb⟩:=c
 exact PE.imp xJ (AD F hc hr hb hm hms he hg hdb hgs hst)
def uk (a:BE):BE:=fun σ S k=>a σ S fun x S1=>match lV x with
 | some []=>k (.ref S1.n) (S1.add (.lst []))
 | some [.tc (.int s lo hi) t]=>match vH t with
  | some ys=>match Nat.blt ys.length 60 with
   | true=>k (.ref S1.n) (S1.add (.lst [.tc (.int s lo hi) t]))
   | false=>false
  | none=>false
 | _=>false
theorem AF:∀ σ H Q,up g (uk ba) σ H Q → tN K g.tT g.tP g.tQ (up g ba) σ H Q:=fun σ H Q ⟨F,y,ρ,S,σa,k,C,r,h,p⟩ =>
 ay C r h fun y1 ρ1 S1 H1 ax x st C1 r1 rx h1=>by
  have lam:=C1.fl.lam H1 C1.J
  have fin:∀ (xs:List AV) (vs:List V) (D:Addr) (H2:Hp),aX F y1 ρ1 H1 xs vs → k (.ref S1.n) (S1.add (.lst xs)) = true → H1 D = none → H2 D = some (.lst vs) → (∀ b o,b ≠ g.tT → H1 b = some o → H2 b = some o) → kO H2 g.tT g.tP g.tQ → (∀ b,H2 b = none → H1 b = none) → Q (.ref D) H2:=fun xs vs D H2 pr hk e1 e2 kp lm lv=>by
   have nT:∀ b,b ∈ ρ1 → b ≠ g.tT:=fun b hb z=>C1.own b hb (by rw [z]; exact C1.fl.own)
   obtain ⟨ps0,hT0,_⟩:=lam
   have stF:aD F y1 ρ1 H1 y1 (ρ1 ++ [D]) H2:=by
    refine ⟨fun _ h=>h,⟨[D],rfl⟩,fun b hb=>?_,fun b o q n w=>kp b o (fun z=>w (by rw [z]; exact C1.fl.own)) q,fun b vs q=>kp b _ (fun z=>by rw [z,hT0] at q; cases q) q,lv,fun b o u q=>kp b _ (fun z=>by rw [z,hT0] at q; cases q) q⟩
    rcases List.mem_append.mp hb with hb | hb
    ·exact .inl hb
    ·rw [List.mem_singleton.mp hb]; exact .inr e1
   have hD2:∀ b o,H1 b = some o → b ≠ D:=fun b o q z=>by rw [z,e1] at q; cases q
   have CM:aM g F y1 ρ1 S1 (fun b=>if b = D then none else H2 b):=by
    refine ⟨C1.n,C1.sym,C1.pos,C1.nd,fun i c ec=>?_,C1.own,C1.fe,fun b w ec=>?_,C1.fl.re H1 _ C1.J ?_ (fun b o n q=>?_),C1.fl⟩
    ·obtain ⟨ob,ho,h1,h2,h3⟩:=C1.at_ i c ec
     refine ⟨ob,ho,h1,?_,fV.monoM ⟨fun _ h=>h,fun h=>h,fun b vs q=>?_⟩ h3⟩
     ·exact (if_neg (hD2 c _ h2)).trans (kp c ho (nT c (List.mem_of_getElem? ec)) h2)
     ·exact (if_neg (hD2 b _ q)).trans (kp b _ (fun z=>by rw [z,hT0] at q; cases q) q)
    ·have nb:b ≠ D:=fun z=>C1.ol b w (by rw [z]; exact e1)
     exact C1.ol b w (lv b ((if_neg nb).symm.trans ec))
    ·obtain ⟨ps,h1,h2,h3⟩:=lm
     refine ⟨ps,(if_neg (hD2 _ _ hT0)).trans h1,h2,?_⟩
     rcases h3 with h3 | ⟨c',h3,h4⟩
     ·exact .inl h3
     ·exact .inr ⟨c',h3,(if_neg fun z=>by rw [z,e2] at h4; cases h4).trans h4⟩
    ·exact (if_neg (hD2 b o q)).trans (kp b o n q)
   have eq:upd (fun b=>if b = D then none else H2 b) D (.lst vs) = H2:=by
    funext b
    by_cases z:b = D
    ·subst z; rw [aC,e2]
    ·rw [am z]; simp [z]
   have CF:=CM.add (p:=D) (o:=.lst xs) (ho:=.lst vs) (by simp) (by rw [eq]; exact ⟨vs,rfl,aX.mono stF pr⟩)
   rw [eq] at CF
   exact p y1 _ _ _ (.ref S1.n) _ (st.trans stF) CF ⟨D,by rw [C1.n]; simp,rfl⟩ hk
  have lvf:∀ H2:Hp,(∀ b o,b ≠ g.tT → H1 b = some o → H2 b = some o) → kO H2 g.tT g.tP g.tQ → ∀ b,H2 b = none → H1 b = none:=fun H2 kp lm b q=>by
   cases e:H1 b with
   | none=>rfl
   | some o =>
    by_cases z:b = g.tT
    ·obtain ⟨ps,h1,_⟩:=lm
     rw [z,h1] at q; cases q
    ·rw [kp b o z e] at q; cases q
  split at h1
  ·rename_i q
   obtain ⟨a,vs,rfl,ha,pr⟩:=f6 rx q
   cases pr
   refine ⟨a,[],[],rfl,ha,by decide,rfl,fun i x k e=>by simp at e,lam,fun D H2 ys e1 e2 kp lm ks=>?_⟩
   obtain ⟨ps,pm,rfl,_⟩:=ks
   have:ps = []:=List.Perm.eq_nil (by simpa using pm)
   subst this
   exact fin [] [] D H2 .nil h1 e1 e2 kp lm (lvf H2 kp lm)
  ·rename_i s lo hi t q
   obtain ⟨a,vs,rfl,ha,pr⟩:=f6 rx q
   split at h1
   ·rename_i ys qu
    split at h1
    ·rename_i q2
     cases pr with | cons r0 tt=>cases tt with | nil =>
     have r00:=r0
     obtain ⟨b,w,ws,rfl,hb,hw,hws⟩:=r0
     obtain ⟨z,rfl,bz⟩:=bF.mp hw
     rw [fB qu] at hws
     have hl:=aR (lS hws)
     have q2:ys.length + 1 ≤ 60:=bO q2
     refine ⟨a,[.ref b],[z],rfl,ha,by simp,rfl,fun i x k e1 e2=>?_,lam,fun D H2 zs e1 e2 kp lm ks=>?_⟩
     ·cases i with
      | zero=>simp at e1 e2; subst e1 e2; exact ⟨b,ws,rfl,hb,by omega⟩
      | succ i=>simp at e1
     ·obtain ⟨ps,pm,rfl,_⟩:=ks
      have:ps = [(z,.ref b)]:=List.perm_singleton.mp (by simpa using pm)
      subst this
      exact fin _ _ D H2 (.cons r00 .nil) h1 e1 e2 kp lm (lvf H2 kp lm)
    ·cases h1
   ·cases h1
  ·cases h1
theorem Dm (h:PE X e (tN K g.tT g.tP g.tQ (up g ba))):PE X e (up g (uk ba)):=PE.imp AF h
end
end RB
namespace L2
open PySem PySem.Spec PyProof.Rows PySem.W
theorem xK (led:Bool) (h:Int):(SetTable.fresh 0 0 led).freeSlot h = some (SetTable.bits h % 8,false):=by
 unfold SetTable.freeSlot SetTable.probe
 rfl
def Dn (led:Bool) (j:Nat):SetTable:={ SetTable.fresh 0 0 led with place:=#[j] }
theorem AG (led:Bool) (h:Int) (x:Value):layNew (SetTable.fresh 0 0 led) #[] h x = (#[(h,x)],Dn led (SetTable.bits h % 8),false,false):=by
 unfold layNew
 rw [xK]
 rfl
section
variable {a:Addr}
theorem ul {led:Bool} {k hs:Int} {t:Tok} {Q:Bool → Shared → Prop} (ho:s.heap.get? a = some { cls:=.type "set",dict:=none,data:=.set #[] 0 (.fresh 0 0 led) })
  (h:Q true { s with heap:=s.heap.update a (Obj.putSet #[(hs,.int k t)] (Dn led (SetTable.bits hs % 8))) }):wpAny (model prog w) A (setAddHashed a (.int k t) hs) Q E s:=by
 unfold setAddHashed setAddHashedIn
 refine wpAny_holding (wpAny_bind (wpAny_setState_of ho rfl rfl ?_))
 dsimp only
 rw [show byScan (.int k t) #[] = true by simp [byScan,Value.scannable,scanBound]]
 simp only [↓reduceIte]
 unfold setAddByScan
 refine wpAny_bind (wpAny_bind (wpAny_rule ?_))
 show wpAny _ _ (pure ScanMet.absent >>= _) _ _ _
 refine wpAny_bind (wpAny_pure ?_)
 dsimp only
 rw [AG]
 dsimp only
 show wpAny _ _ (pure () >>= _) _ _ _
 refine wpAny_bind (wpAny_pure ?_)
 show wpAny _ _ (hashByValue 8 (.int k t) >>= _) _ _ _
 rw [hashByValue_scannable 8 rfl]
 refine wpAny_bind (wpAny_pure ?_)
 simp only [plainKind,↓reduceIte]
 refine wpAny_bind (wpAny_storeSet_of ho rfl ?_ (Nat.le_trans (by decide:1 ≤ 4096) (fits_of_scanBound (by decide:4095 < scanBound) |> fun _=>by rw [sizeLine_eq]; decide)))
 rw [if_neg (by show ¬ ((!false && (Dn led (SetTable.bits hs % 8)).tooFull) = true); show ¬ ((!false && decide ((1 + 0) * 5 ≥ 7 * 3)) = true); simp)]
 exact wpAny_pure (wpAny_pure h)
theorem qG (x:Value) {Q₁:Value → Shared → Prop}
  (h:Q₁ (.ref s.heap.objs.size) { s with heap:=s.heap.push { cls:=.type "set",dict:=none,data:=.set #[] 0 (.fresh 0 0 (!w.params.followText "set-order")) } }) :
  codeAny (model prog w) A (.call (.builtin "set.__new__") ⟨[.type "set",x],[]⟩) (wants Q₁ E) s:=by
 refine codeAny_of_tree ?_
 show wpAny _ A.in1 (do checkBuiltinCall "set.__new__" ⟨[.type "set",x],[]⟩; again (.builtin "set.__new__" ⟨[.type "set",x],[]⟩)) _ _ s
 refine wpAny_bind (wpAny_of_eq (F.newCall_set_1 x) (wpAny_pure ⟨plainId_quiet F.plain_set_new _,codeAny_builtin F.entry_set_new ?_⟩))
 rw [Around.under_plainId F.plain_set_new _]
 unfold Builtin.«set.__new__» Builtin.Frozenset.newClass
 have hsub:=sub_set_self
 obtain ⟨hp,g,d,tk,os⟩:=s
 dsimp only
 wp_walk
 refine wpAny_askSetting (wpAny_pure ?_)
 dsimp only
 simp only [newObj]
 refine wpAny_bind (wpAny_alloc (wpAny_pure ?_))
 exact wpAny_pure h
end
theorem c7:Slot "set_iterator" "__next__" "set_iterator.__next__" :=
 .of (owner:="set_iterator") (n:="__next__") (by rw [typeLookup_type,builtinLookup_eq_fast]; kernel_rfl) (by decide +kernel) (by decide +kernel) (by decide +kernel)
  (by first | exact .inl (by decide +kernel) | exact .inr (by decide +kernel)) (by rw [isSubtype_type]; kernel_rfl)
theorem jv:entryFor table "set_iterator.__next__" = some Builtin.«set_iterator.__next__»:=entryFor_of_tree (by kernel_rfl)
theorem wf:Manifest.owners.lookup (String.ofList ['r','o','t','a','r','e','t','i','_','t','e','s'].reverse) = some Manifest.sig_set_iterator:=by kernel_rfl
theorem k6 (a:Value):argsOk "set_iterator.__next__" ⟨[a],[]⟩:=by
 unfold argsOk; rw [signature?_of (id:="set_iterator.__next__") (n:=['_','_','t','x','e','n','_','_']) (o:=['r','o','t','a','r','e','t','i','_','t','e','s']) (by kernel_rfl) wf]; kernel_rfl
theorem k7:Slot "set_iterator" "__iter__" "set_iterator.__iter__" :=
 .of (owner:="set_iterator") (n:="__iter__") (by rw [typeLookup_type,builtinLookup_eq_fast]; kernel_rfl) (by decide +kernel) (by decide +kernel) (by decide +kernel)
  (by first | exact .inl (by decide +kernel) | exact .inr (by decide +kernel)) (by rw [isSubtype_type]; kernel_rfl)
theorem qH:entryFor table "set_iterator.__iter__" = some Builtin.«dict_keyiterator.__iter__» :=
 entryFor_alias (id':="dict_keyiterator.__iter__") (by kernel_rfl) (by first | rfl | decide +kernel | (unfold String.splitOn; simp +decide [String.splitOnAux])) (by decide +kernel) (by kernel_rfl)
theorem uo (a:Value):argsOk "set_iterator.__iter__" ⟨[a],[]⟩:=by
 unfold argsOk; rw [signature?_of (id:="set_iterator.__iter__") (n:=['_','_','r','e','t','i','_','_']) (o:=['r','o','t','a','r','e','t','i','_','t','e','s']) (by kernel_rfl) wf]; kernel_rfl
theorem k8:entryFor table "set.__iter__" = some Builtin.«frozenset.__iter__» :=
 entryFor_alias (id':="frozenset.__iter__") (by kernel_rfl) (by first | rfl | decide +kernel | (unfold String.splitOn; simp +decide [String.splitOnAux])) (by decide +kernel) (by kernel_rfl)
def jm (w:World) (h:Heap) (a:Addr) (k:Int) (hs:Int) (t:Tok) (ep j:Nat):Prop:=∃ o,h.get? a = some o ∧ o.ExactSet ∧ o.data = .set #[(hs,.int k t)] ep (Dn (!w.params.followText "set-order") j)
def wg (h:Heap) (it a:Addr) (f i:Int) (ep:Nat):Prop:=h.get? it = some { cls:=.type "set_iterator",dict:=none,data:=.fields #[.int f 0,.int i 0,.ref a,.int 1 0,.int ep 0],slots:=#[] }
section
variable {a it:Addr} {k hs:Int} {t:Tok} {ep j:Nat}
theorem jm.typeIs (x:jm w s.heap a k hs t ep j):s.TypeIs (.ref a) "set":=let ⟨o,ho,hx,_⟩:=x; ⟨o,ho,hx.1⟩
theorem wg.typeIs {f i:Int} (x:wg s.heap it a f i ep):s.TypeIs (.ref it) "set_iterator":=⟨_,x,rfl⟩
theorem Do {Q:Value → Shared → Prop} (x:jm w s.heap a k hs t ep j)
  (h:Q (.ref s.heap.objs.size) { s with heap:=s.heap.push { cls:=.type "set_iterator",data:=.fields #[.int 0 0,.int 0 0,.ref a,.int 1 0,.int ep 0] } }):wpAny (model prog w) A (pyIter (.ref a)) Q E s:=by
 obtain ⟨o,ho,hx,hd⟩:=id x
 refine wpAny_pyIter_slot x.typeIs F.slot_set_iter (wpAny_call_entry F.slot_set_iter x.typeIs k8 ?_ (F.args_set_iter_1 _))
 unfold Builtin.«frozenset.__iter__»
 show wpAny _ _ (Builtin.Frozenset.sizeOf a >>= _) _ _ s
 unfold Builtin.Frozenset.sizeOf
 refine wpAny_bind (wpAny_bind (wpAny_setEntries_of ho hd rfl (wpAny_pure ?_)))
 unfold setDrawn
 refine wpAny_bind (wpAny_bind (wpAny_setState_of ho hd rfl ?_))
 dsimp only
 unfold setsByText
 refine wpAny_bind (wpAny_bind (wpAny_askSetting (wpAny_pure ?_)))
 refine wpAny_pure ?_
 refine wpAny_ite_split (fun hab=>absurd hab (show ¬ ((!(w.params.followText "set-order") && false) = true) by simp)) (fun _=>?_)
 refine wpAny_bind (wpAny_pure ?_)
 unfold setEpoch
 refine wpAny_bind (wpAny_bind (wpAny_setState_of ho hd rfl (wpAny_pure ?_)))
 refine wpAny_bind (wpAny_newObj_type (wpAny_pure ⟨_,rfl,"set_iterator",_,⟨_,Heap.get?_push_size _ rfl,rfl⟩,c7.lookup,?_⟩))
 exact h
end
section
variable {a it:Addr} {k hs:Int} {t:Tok} {ep j:Nat}
theorem wj {α:Type} (f:Nat → Nat) (x:α):pickOrder f #[x] = #[x]:=by
 unfold pickOrder
 show pickOrder.go f 1 0 [x] #[] = #[x]
 unfold pickOrder.go
 simp [Nat.mod_one]
 unfold pickOrder.go
 rfl
theorem xL (j:Nat):SetTable.below #[j] 0 = 0:=by
 simp [SetTable.below,SetTable.below.go]
theorem xM (j:Nat):SetTable.below #[j] (j + 1) = 1:=by
 simp [SetTable.below,SetTable.below.go]
theorem uq {slot:Nat} {Q:Option (Value × Nat) → Shared → Prop} (x:jm w s.heap a k hs t ep j) (hq:∀ n,(w.params.followText "set-order" = false → n = j + 1) → Q (some (.int k t,n)) s):wpAny (model prog w) A (setNext a 0 0 ep) Q E s:=by
 obtain ⟨o,ho,hx,hd⟩:=id x
 unfold setNext
 refine wpAny_bind (wpAny_setState_of ho hd rfl ?_)
 dsimp only
 unfold setsByText
 refine wpAny_bind (wpAny_bind (wpAny_askSetting (wpAny_pure ?_)))
 dsimp only
 show wpAny _ _ (if (w.params.followText "set-order") = true then _ else _) _ _ _
 cases hb:w.params.followText "set-order" with
 | true =>
  simp only [↓reduceIte,bne_self_eq_false,Bool.false_eq_true]
  unfold setWalk
  refine wpAny_bind (wpAny_bind (wpAny_setState_of ho hd rfl ?_))
  dsimp only
  unfold setsByText
  refine wpAny_bind (wpAny_bind (wpAny_askSetting (wpAny_pure ?_)))
  show wpAny _ _ (if (w.params.followText "set-order") = true then _ else _) _ _ _
  rw [if_pos hb]
  refine wpAny_bind (wpAny_askSetting (wpAny_pure (wpAny_pure ?_)))
  rw [wj]
  exact hq _ fun z=>by rw [hb] at z; cases z
 | false =>
  simp only [Bool.false_eq_true,↓reduceIte]
  refine wpAny_ite_split (fun hab=>absurd hab (show ¬ (false = true) by simp)) (fun _=>?_)
  refine wpAny_bind ?_
  show wpAny _ _ (if (!(!false) && !(#[(hs,Value.int k t)]).isEmpty) = true then _ else _) _ _ _
  refine wpAny_ite_split (fun hab=>absurd hab (by simp)) (fun _=>wpAny_pure ?_)
  refine wpAny_pure ?_
  show Q (match (#[(hs,Value.int k t)])[SetTable.below #[j] 0]?,(#[j]:Array Nat)[SetTable.below #[j] 0]? with
   | some (_,x),some j=>some (x,j + 1)
   | _,_=>none) s
  rw [xL]
  exact hq _ fun _=>rfl
theorem ur {n:Nat} {Q:Option (Value × Nat) → Shared → Prop} (x:jm w s.heap a k hs t ep j) (hn:w.params.followText "set-order" = false → n = j + 1) (hq:Q none s):wpAny (model prog w) A (setNext a n 1 ep) Q E s:=by
 obtain ⟨o,ho,hx,hd⟩:=id x
 unfold setNext
 refine wpAny_bind (wpAny_setState_of ho hd rfl ?_)
 dsimp only
 unfold setsByText
 refine wpAny_bind (wpAny_bind (wpAny_askSetting (wpAny_pure ?_)))
 dsimp only
 show wpAny _ _ (if (w.params.followText "set-order") = true then _ else _) _ _ _
 cases hb:w.params.followText "set-order" with
 | true =>
  simp only [↓reduceIte,bne_self_eq_false,Bool.false_eq_true]
  unfold setWalk
  refine wpAny_bind (wpAny_bind (wpAny_setState_of ho hd rfl ?_))
  dsimp only
  unfold setsByText
  refine wpAny_bind (wpAny_bind (wpAny_askSetting (wpAny_pure ?_)))
  show wpAny _ _ (if (w.params.followText "set-order") = true then _ else _) _ _ _
  rw [if_pos hb]
  refine wpAny_bind (wpAny_askSetting (wpAny_pure (wpAny_pure ?_)))
  rw [wj]
  exact hq
 | false =>
  have hn:=hn hb
  subst hn
  simp only [Bool.false_eq_true,↓reduceIte]
  refine wpAny_ite_split (fun hab=>absurd hab (show ¬ (false = true) by simp)) (fun _=>?_)
  refine wpAny_bind ?_
  show wpAny _ _ (if (!(!false) && !(#[(hs,Value.int k t)]).isEmpty) = true then _ else _) _ _ _
  refine wpAny_ite_split (fun hab=>absurd hab (by simp)) (fun _=>wpAny_pure ?_)
  refine wpAny_pure ?_
  show Q (match (#[(hs,Value.int k t)])[SetTable.below #[j] (j + 1)]?,(#[j]:Array Nat)[SetTable.below #[j] (j + 1)]? with
   | some (_,x),some j=>some (x,j + 1)
   | _,_=>none) s
  rw [xM]
  exact hq
end
section
variable {a it:Addr} {k hs:Int} {t:Tok} {ep j:Nat}
theorem AH {Q:Option Value → Shared → Prop} (x:jm w s.heap a k hs t ep j) (i:wg s.heap it a 0 0 ep)
  (hQ:∀ h' n,(w.params.followText "set-order" = false → n = j + 1) → wg h' it a (n:Nat) 1 ep → Heap.SameBut it s.heap h' → Q (some (.int k t)) { s with heap:=h' }):wpAny (model prog w) A (pyNext (.ref it)) Q E s:=by
 obtain ⟨os,hos,hxs,hds⟩:=id x
 unfold pyNext
 refine wpAny_bind (wpAny_attempt (wpAny_callSpecial?_slot (name:=Str.ofString "__next__") i.typeIs c7 (wpAny_call_entry c7 i.typeIs jv ?_ (k6 _))))
 unfold Builtin.«set_iterator.__next__»
 refine wpAny_bind (wpAny_pure ?_)
 refine wpAny_bind (wpAny_fieldsOf i rfl ?_)
 dsimp only
 refine wpAny_bind (wpAny_setEntries_of hos hds rfl ?_)
 rw [if_neg (by simp)]
 simp only [Int.toNat_natCast]
 show wpAny _ _ (setNext a 0 0 ep >>= _) _ _ _
 refine wpAny_bind (uq (slot:=0) x fun n hn=>?_)
 dsimp only
 refine wpAny_bind (wpAny_setField_rec i (by simp) fun h1 e1 s1=>?_)
 refine wpAny_bind (wpAny_setField_rec (s:={ s with heap:=h1 }) e1 (by simp) fun h2 e2 s2=>?_)
 exact wpAny_pure ⟨_,rfl,wpAny_pure (hQ h2 n hn (by unfold wg; simpa [rawInt] using e2) (s1.trans s2))⟩
theorem AI {n:Nat} {Q:Option Value → Shared → Prop} (hh:A.handled = none) (x:jm w s.heap a k hs t ep j) (i:wg s.heap it a (n:Nat) 1 ep) (hn:w.params.followText "set-order" = false → n = j + 1)
  (hQ:∀ h',Heap.ExtBut it s.heap h' → Q none { s with heap:=h' }):wpAny (model prog w) A (pyNext (.ref it)) Q E s:=by
 obtain ⟨os,hos,hxs,hds⟩:=id x
 unfold pyNext
 refine wpAny_bind (wpAny_attempt (wpAny_callSpecial?_slot (name:=Str.ofString "__next__") i.typeIs c7 (wpAny_call_entry c7 i.typeIs jv ?_ (k6 _))))
 unfold Builtin.«set_iterator.__next__»
 refine wpAny_bind (wpAny_pure ?_)
 refine wpAny_bind (wpAny_fieldsOf i rfl ?_)
 dsimp only
 refine wpAny_bind (wpAny_setEntries_of hos hds rfl ?_)
 rw [if_neg (by simp)]
 simp only [Int.toNat_natCast]
 show wpAny _ _ (setNext a n 1 ep >>= _) _ _ _
 refine wpAny_bind (ur x hn ?_)
 dsimp only
 refine wpAny_bind (wpAny_setField_rec i (by simp) fun h1 e1 s1=>?_)
 show wpAny _ _ (newExc (.type "StopIteration") [] >>= _) _ _ _
 refine wpAny_bind ?_
 simp only [newExc,newTuple]
 refine wpAny_bind (wpAny_newObj_type ?_ (by size_fits))
 refine wpAny_bind (m:=firstArgMember _ _) (wpAny_of_eq (a:=Value.none) (by first | rfl | (simp only [firstArgMember]; rfl)) ?_)
 refine wpAny_newObj_type ?_ (by size_fits)
 simp only [raiseNew]
 refine wpAny_bind (wpAny_handled ?_)
 first | rw [show A.in1.handled = none from hh] | rw [hh]
 refine wpAny_bind (wpAny_pure (wpAny_throw ?_))
 refine wpAny_bind (wpAny_isInstance (T:="StopIteration") (b:=true) ⟨_,Heap.get?_push_size _ rfl,rfl⟩ isSubtype_stop ?_)
 exact wpAny_pure (hQ _ ((s1.extBut.push _).push _))
theorem jm.at {h h':Heap} (x:jm w h a k hs t ep j) (e:∀ o,h.get? a = some o → h'.get? a = some o):jm w h' a k hs t ep j:=let ⟨o,ho,r⟩:=x; ⟨o,e o ho,r⟩
theorem AJ (hh:A.handled = none) (I:Addr) (hne:a ≠ I):Walks prog w A I [I,a] [I] 1 (fun _ v=>v = .int k t) (fun i h=>jm w h a k hs t ep j ∧ ((i = 0 ∧ wg h I a 0 0 ep) ∨ (i = 1 ∧ ∃ n:Nat,(w.params.followText "set-order" = false → n = j + 1) ∧ wg h I a (n:Nat) 1 ep))) where
 sub:=fun b hb=>by simp at hb; simp [hb]
 frame:=fun i h h' st hk=>⟨st.1.at fun o e=>hk a (by simp) o e,by
  rcases st.2 with ⟨rfl,z⟩ | ⟨rfl,n,hn,z⟩
  ·exact .inl ⟨rfl,hk I (by simp) _ z⟩
  ·exact .inr ⟨rfl,n,hn,hk I (by simp) _ z⟩⟩
 item:=fun i s Q E hi st hQ=>by
  obtain ⟨x,z⟩:=st
  rcases z with ⟨rfl,z⟩ | ⟨rfl,_⟩
  ·exact AH x z fun h' n hn i' sb=>hQ _ h' s.toks rfl ⟨x.at fun o e=>(sb.2 a hne).trans e,.inr ⟨rfl,n,hn,i'⟩⟩ fun b o hb e=>(sb.2 b (fun z=>hb (by simp [z]))).trans e
  ·omega
 done:=fun s Q E st hQ=>by
  obtain ⟨x,z⟩:=st
  rcases z with ⟨z,_⟩ | ⟨_,n,hn,z⟩
  ·cases z
  ·exact AI hh x z hn fun h' he=>hQ h' s.toks fun b o hb e=>he b o (fun z=>hb (by simp [z])) e
 self:=fun i s Q E st hQ=>by
  have hT:s.TypeIs (.ref I) "set_iterator":=by
   rcases st.2 with ⟨_,z⟩ | ⟨_,n,_,z⟩
   ·exact z.typeIs
   ·exact z.typeIs
  refine wpAny_pyIter_slot hT k7 (wpAny_call_entry k7 hT qH ?_ (uo _))
  show wpAny _ _ (ret (.ref I)) _ _ s
  exact wpAny_pure ⟨_,rfl,"set_iterator",_,hT,c7.lookup,hQ⟩
theorem Fi {r:Addr} {Q:Bool → Shared → Prop} (hT:s.TypeIs (.ref r) "set") (h:Q false s):wpAny (model prog w) A (Builtin.List.listLengthHint (.ref r)) Q E s:=by
 unfold Builtin.List.listLengthHint
 refine wpAny_bind (wpAny_specialOf hT PySem.F.slot_set_len.lookup ?_)
 generalize hid:("set.__len__":String) = id0
 wp_delta
 rw [show splitId id0 = some ("set","__len__") from by subst hid; decide +kernel]
 subst hid
 refine wpAny_bind (wpAny_isInstance (T:="set") (b:=true) hT (by rw [isSubtype_type]; kernel_rfl) ?_)
 refine wpAny_ite_split (fun hab=>absurd hab (by decide)) (fun _=>?_)
 refine wpAny_ite_split (fun _=>?_) (fun hab=>absurd (by decide +kernel) hab)
 refine wpAny_bind (wpAny_typeOf hT ?_)
 exact wpAny_pure h
theorem Fj:KdlSrc prog w "set" a a 1 (fun _ v=>v = .int k t) (fun h=>jm w h a k hs t ep j) where
 type:=fun _ x=>x.typeIs
 there:=fun _ x=>let ⟨_,ho,_⟩:=x; ⟨Heap.lt_size ho,Heap.lt_size ho⟩
 keep:=fun _ _ x hk=>x.at fun o e=>hk a (.inl rfl) o e
 notList:=by decide
 notTuple:=by decide
 hint:=fun _ _ _ _ x hq=>Fi x.typeIs hq
 iter:=fun _ _ hh x=>⟨_,_,(fun _ _ hq=>Do x hq),AJ hh _ (let ⟨_,ho,_⟩:=x; Nat.ne_of_lt (Heap.lt_size ho)),⟨x.at fun o e=>Heap.get?_push_of_some _ e,.inl ⟨rfl,Heap.get?_push_size _ rfl⟩⟩⟩
end
section
theorem Dp {R:Result → Shared → Prop} {S I l:Addr} {k:Int} {t:Tok} (hh:A.in1.handled = none) (hne:l ≠ I) (hSI:S ≠ I) (hSl:S ≠ l) (hS:s.heap.get? S = some { cls:=.type "set",dict:=none,data:=.set #[] 0 (.fresh 0 0 (!w.params.followText "set-order")) })
  (hI:s.heap.IsTupleIter I l 0) (hl:s.heap.IsTuple l #[.int k t])
  (hR:∀ h' tk hs ep j,jm w h' S k hs t ep j → (∀ b o,b ≠ S → b ≠ I → s.heap.get? b = some o → h'.get? b = some o) → R (.ok (.ret .none)) { s with heap:=h',toks:=tk }) :
  codeAny (model prog w) A (.builtin "set.update.loop" ⟨[.ref S,.ref I],[]⟩) R s:=by
 have W:=Walks.tuple (prog:=prog) (w:=w) hh I l hne #[.int k t]
 refine codeAny_builtin F.entry_set_update_loop ?_
 rw [Around.under_plainId F.plain_set_update_loop _]
 show wpAny _ A.in1 (pyNext (.ref I) >>= _) _ _ s
 refine wpAny_bind (W.item 0 s _ _ (by simp) ⟨hI,hl⟩ fun v h1 tk hv st1 kp=>?_)
 have hv:v = .int k t:=by simpa using hv.symm
 subst hv
 have hS1:=kp S _ (by simp [hSI]) hS
 show wpAny _ A.in1 (holding [Value.int k t] (setAdd S (.int k t)) >>= _) _ _ _
 refine wpAny_bind (wpAny_holding ?_)
 unfold setAdd
 refine wpAny_holding ?_
 refine wpAny_bind ((intKind prog w).pyHash (k:=k) (intKind_is _ _ _ _) ?_)
 refine ul hS1 ?_
 refine wpAny_pure ⟨plainId_quiet F.plain_set_update_loop _,codeAny_builtin F.entry_set_update_loop ?_⟩
 rw [Around.under_plainId F.plain_set_update_loop _]
 show wpAny _ A.in1 (pyNext (.ref I) >>= _) _ _ _
 refine wpAny_bind (W.done _ _ _ (W.frame _ _ _ st1 fun b hb o e=>?_) fun h2 tk2 kp2=>?_)
 ·simp at hb
  rcases hb with rfl | rfl
  ·exact (Heap.get?_update_ne _ _ _ _ hSI.symm).trans e
  ·exact (Heap.get?_update_ne _ _ _ _ hSl.symm).trans e
 ·show wpAny _ A.in1 (ret Value.none) _ _ _
  refine wpAny_pure (hR h2 tk2 ((intKind prog w).hash k) 1 (SetTable.bits ((intKind prog w).hash k) % 8) ?_ fun b o n1 n2 e=>kp2 b o (by simp [n2]) ((Heap.get?_update_ne _ _ _ _ n1).trans (kp b o (by simp [n2]) e)))
  have hg:=Heap.get?_update_self (Obj.putSet #[((intKind prog w).hash k,Value.int k t)] (Dn (!w.params.followText "set-order") (SetTable.bits ((intKind prog w).hash k) % 8))) hS1 rfl
  exact ⟨_,kp2 S _ (by simp [hSI]) hg,⟨rfl,rfl,rfl⟩,rfl⟩
set_option maxRecDepth 100000 in
theorem ut {l:Addr} {k:Int} {t:Tok} {Q:Value → Shared → Prop} (hh:A.handled = none) (hl:s.heap.IsTuple l #[.int k t])
  (h:∀ (h':Heap) (tk:Nat) hs ep j,jm w h' s.heap.objs.size k hs t ep j → (∀ b o,s.heap.get? b = some o → h'.get? b = some o) → Q (.ref s.heap.objs.size) { s with heap:=h',toks:=tk }) :
  wpAny (model prog w) A (call (.type "set") [.ref l]) Q E s:=by
 obtain ⟨c,tl,hmro⟩:=F.called_set.mro
 have hmade:=F.called_set.made
 have hsub:=F.called_set.sub
 refine wpAny_call (codeAny_of_tree ?_)
 show wpAny _ _ (callAny (.type "set") _) _ _ _
 refine wpAny_pure ⟨Code.quiet_builtin _ (by decide +kernel),codeAny_builtin F.entry_type_call ?_⟩
 rw [Around.under_plain (weight_type_call_type "set" [.ref l] []) rfl]
 have h1:=F.called_set.notType
 have h2:=F.called_set.canCreate
 have hct:=F.typeCall_set_1 (.ref l)
 repeat (any_goals (first | assumption | wp_step))
 refine codeAny_mono (qG (.ref l) (E:=E) (Q₁:=fun obj s₁=>obj = .ref s.heap.objs.size ∧ s₁ = { s with heap:=s.heap.push { cls:=.type "set",dict:=none,data:=.set #[] 0 (.fresh 0 0 (!w.params.followText "set-order")) } }) ⟨rfl,rfl⟩) fun r s₁ hr=>?_
 cases r with
 | error e=>exact hr
 | ok fl =>
  cases fl with
  | ret obj =>
   obtain ⟨rfl,rfl⟩:=hr
   generalize hled:(!w.params.followText "set-order") = led
   have hS:(s.heap.push { cls:=.type "set",dict:=none,data:=.set #[] 0 (.fresh 0 0 led) }).get? s.heap.objs.size = some { cls:=.type "set",dict:=none,data:=.set #[] 0 (.fresh 0 0 led) }:=Heap.get?_push_size _ rfl
   have hT:Shared.TypeIs { s with heap:=s.heap.push { cls:=.type "set",dict:=none,data:=.set #[] 0 (.fresh 0 0 led) } } (.ref s.heap.objs.size) "set":=⟨_,hS,rfl⟩
   have hli:=F.called_set.init.lookup
   have hbi:=F.called_set.init.bind (.ref s.heap.objs.size)
   repeat (any_goals (first | assumption | wp_step))
   refine codeAny_mono (codeAny_call_builtin (R:=wants (fun r s₂=>r = .none ∧ ∃ h' tk hs ep j,s₂ = { s with heap:=h',toks:=tk } ∧ jm w h' s.heap.objs.size k hs t ep j ∧
     (∀ b o,s.heap.get? b = some o → h'.get? b = some o)) E) F.called_set.init.plain F.entry_set_init (check_set_init_1 hT ?_)) fun r₂ s₂ hr₂=>?_
   ·obtain ⟨ol,hol,hcl,nl,hdl⟩:=id hl
    obtain ⟨ocls,odict,odata,oslots⟩:=ol
    simp only at hcl hdl
    subst hcl; subst hdl
    have hol':(s.heap.push { cls:=.type "set",dict:=none,data:=.set #[] 0 (.fresh 0 0 led) }).get? l = some { cls:=.type "tuple",dict:=odict,data:=.seq #[.int k t] nl,slots:=oslots }:=Heap.get?_push_of_some _ hol
    have hsls:=F.sub_tuple_set
    have hslf:=F.sub_tuple_frozenset
    have hne:(Value.type "tuple" == Value.type "dict") = false:=by decide
    have hl1:(s.heap.push { cls:=.type "set",dict:=none,data:=.set #[] 0 (.fresh 0 0 led) }).IsTuple l #[.int k t]:=⟨_,hol',rfl,nl,rfl⟩
    unfold Builtin.«set.__init__» noKeywords Builtin.Frozenset.updateFrom
    generalize hPI:pyIter = PI
    wp_walk
    subst hPI
    refine wpAny_pyIter_tuple hl1 ?_
    refine wpAny_bind (wpAny_runValue ?_)
    have hlS:l < s.heap.objs.size:=Heap.lt_size hol
    have hh3:A.in1.in1.in1.handled = none:=by simp [hh]
    have hneI:l ≠ (s.heap.push { cls:=.type "set",dict:=none,data:=.set #[] 0 (.fresh 0 0 led) }).objs.size:=by
     rw [Heap.size_push]; exact Nat.ne_of_lt (Nat.lt_succ_of_lt hlS)
    have hSI:s.heap.objs.size ≠ (s.heap.push { cls:=.type "set",dict:=none,data:=.set #[] 0 (.fresh 0 0 led) }).objs.size:=by
     rw [Heap.size_push]; exact Nat.ne_of_lt (Nat.lt_succ_self _)
    subst hled
    refine Dp hh3 hneI hSI (Nat.ne_of_gt hlS) (Heap.get?_push_of_some _ hS) ⟨_,Heap.get?_push_size _ rfl,rfl,rfl⟩ (hl1.push _) fun h' tk hs ep j o kp=>?_
    show wpAny _ _ _ _ _ _
    refine wpAny_pure ?_
    show wpAny _ _ (ret Value.none) _ _ _
    refine wpAny_pure ⟨rfl,h',tk,hs,ep,j,rfl,o,fun b o e=>?_⟩
    have hb:=Heap.lt_size e
    exact kp b o (Nat.ne_of_lt hb) (by rw [Heap.size_push]; exact Nat.ne_of_lt (Nat.lt_succ_of_lt hb)) (Heap.get?_push_of_some _ (Heap.get?_push_of_some _ e))
   ·cases r₂ with
    | error e=>exact hr₂
    | ok fl₂ =>
     cases fl₂ with
     | ret r =>
      obtain ⟨rfl,h',tk,hs,ep,j,rfl,hS',hk'⟩:=hr₂
      repeat (any_goals (first | assumption | wp_step))
      exact h _ _ _ _ _ hS' hk'
     | _=>exact hr₂.elim
  | _=>exact hr.elim
end
def xN (w:World) (a:Addr) (k:Int):HO:=.ext fun h=>∃ hs t ep j,jm w h a k hs t ep j
def Gj (w:World):List V → Hp → VK → Prop:=fun vs H Q=>∃ a k,vs = [.ref a] ∧ H a = some (.tup [.int k]) ∧ ∀ p,H p = none → Q (.ref p) (upd H p (xN w p k))
def Dq (w:World):List V → Hp → VK → Prop:=fun vs H Q=>∃ a k,vs = [.ref a] ∧ H a = some (xN w a k) ∧ ∀ p,H p = none → Q (.ref p) (upd H p (.lst [.int k]))
section
theorem AK (hc:X.calm = true):dy X (.type "set") (Gj X.w):=by
 intro pins s σ H xs us Q I r h
 obtain ⟨a,k,rfl,ha,q⟩:=h
 obtain ⟨u,rfl,ru⟩:=iH r
 cases ru
 obtain ⟨z,its,rv,tp⟩:=I.hok a _ ha
 cases rv with | cons r0 rr=>cases rr with | nil =>
 obtain ⟨t,rfl⟩:=r0
 refine ut (I.ok.hd hc) tp fun h' tk hs ep j o kp=>?_
 refine ⟨.ref s.heap.objs.size,_,I.laid (a:=s.heap.objs.size) (h':=h') (o:=xN X.w s.heap.objs.size k) (t':=tk) kp (Nat.le_refl _) ⟨⟨hs,t,ep,j,o⟩,let ⟨ob,ho,_⟩:=o; ⟨ob,ho⟩,fun h1 h2 ⟨hs,t,ep,j,o⟩ e=>⟨hs,t,ep,j,o.at e⟩⟩,rfl,q _ (I.hok.fresh (Nat.le_refl _))⟩
theorem xO (hc:X.calm = true):dy X (.builtin "sorted") (Dq X.w):=by
 intro pins s σ H xs us Q I r h
 obtain ⟨a,k,rfl,ha,q⟩:=h
 obtain ⟨u,rfl,ru⟩:=iH r
 cases ru
 obtain ⟨⟨hs,t,ep,j,o⟩,_⟩:=I.hok a _ ha
 refine o3 (ys:=[.int k]) (out:=[.int k]) hc I ?_ (by simp) (.inl ⟨by simp,rfl⟩) q
 intro A Q E hh q
 refine kdu_collect (Fj (prog:=X.prog) (w:=X.w) (k:=k) (hs:=hs) (t:=t) (ep:=ep) (j:=j)) hh o (by rw [sizeLine_eq]; decide) fun h' tk acc kp ia=>?_
 refine q _ h' tk ?_ kp
 obtain ⟨i1,i2⟩:=ia
 match he:acc.toList with
 | []=>rw [← Array.length_toList,he] at i1; cases i1
 | [v] =>
  have:=i2 0 v (by rw [← Array.getElem?_toList,he]; rfl)
  subst this
  exact .cons ⟨t,rfl⟩ .nil
 | _ :: _ :: _=>rw [← Array.length_toList,he] at i1; simp at i1
end
end L2
namespace RB
open PySem L2
def wk (a:BE):BE:=fun σ S k=>a σ S fun x S1=>match x with
 | .tc (.int s lo hi) .tn=>k (.ref S1.n) (S1.add (.lst [.int s lo hi]))
 | _=>false
section
variable {e:Expr} {ba:BE}
theorem xP (h:PE X e (Iq (Dq w) (oq (Iq (Gj w) (oq (up g ba) oo)) oo))):PE X e (up g (wk ba)):=by
 refine PE.imp (fun σ H Q ⟨F,y,ρ,S,σa,k,C,r,h,p⟩=>?_) h
 refine ay C r h fun y1 ρ1 S1 H1 ax x st C1 r1 rx h1=>?_
 split at h1
 ·rename_i s lo hi
  obtain ⟨a,vs,rfl,ha,pr⟩:=aY.chain_of (xs:=[.int s lo hi]) rx
  cases pr with | cons r0 t=>cases t with | nil =>
  have r00:=r0
  obtain ⟨z,rfl,bz⟩:=bF.mp r0
  refine ⟨a,z,rfl,ha,fun pl hp=>⟨pl,z,rfl,aC,fun p2 hp2=>?_⟩⟩
  have st2:aD F y1 ρ1 H1 y1 ρ1 (upd H1 pl (xN w pl z)):=aD.lay hp
  have C2:aM g F y1 ρ1 S1 (upd H1 pl (xN w pl z)):=C1.lay hp
  have st3:aD F y1 ρ1 (upd H1 pl (xN w pl z)) y1 (ρ1 ++ [p2]) (upd (upd H1 pl (xN w pl z)) p2 (.lst [.int z])):=aD.add hp2
  exact p y1 _ _ _ (.ref S1.n) _ ((st.trans st2).trans st3) (C2.add (o:=.lst [.int s lo hi]) hp2 ⟨_,rfl,.cons (aY.mono (st2.trans st3) r00) .nil⟩) ⟨p2,by rw [C1.n]; simp,rfl⟩ h1
 ·cases h1
end
end RB
namespace L2
open PySem PySem.Spec PyProof.Rows PySem.W
theorem k9 {κ β:Type} [DecidableEq κ] {k:κ}:∀ {xs:List (κ × β)} {j:Nat} {p:β},(xs.map (·.1)).Nodup → xs[j]? = some (k,p) → xs.eraseIdx j = xs.filter fun x=>decide (x.1 ≠ k)
 | [],j,p,_,e=>by simp at e
 | x :: r,0,p,hn,e=>by
  simp at e
  subst e
  rw [List.map_cons,List.nodup_cons] at hn
  rw [List.eraseIdx_zero,List.tail_cons,List.filter_cons]
  rw [if_neg (by simp)]
  symm
  rw [List.filter_eq_self]
  intro x hx
  have:x.1 ≠ k:=fun z=>hn.1 (by rw [← z]; exact List.mem_map.mpr ⟨x,hx,rfl⟩)
  simp [this]
 | x :: r,j + 1,p,hn,e=>by
  rw [List.map_cons,List.nodup_cons] at hn
  have e':r[j]? = some (k,p):=by simpa using e
  have ne:x.1 ≠ k:=fun z=>hn.1 (by rw [z]; exact List.mem_map.mpr ⟨(k,p),List.mem_of_getElem? e',rfl⟩)
  rw [List.eraseIdx_cons_succ,List.filter_cons,if_pos (by simp [ne]),k9 hn.2 e']
theorem sG {α β:Type} (f:α → β):∀ (l:List α) (j:Nat),(l.map f).eraseIdx j = (l.eraseIdx j).map f
 | [],_=>rfl
 | _ :: _,0=>rfl
 | x :: l,j + 1=>by simp [List.eraseIdx_cons_succ,sG f l j]
theorem KT.drop {kvs:List (List bj × V)} {xs:List (List bj × Addr × Value)} (r:KT H kvs xs) (k:List bj):KT H (gw kvs k) (xs.filter fun x=>decide (x.1 ≠ k)):=by
 induction r with
 | nil=>exact .nil
 | @cons p q ps qs h t ih =>
  unfold gw
  rw [List.filter_cons,List.filter_cons]
  have e:q.1 = p.1:=h.1.symm
  rw [e]
  by_cases z:p.1 = k
  ·simp only [z,ne_eq,not_true,decide_false]; exact ih
  ·simp only [z,ne_eq,not_false_eq_true,decide_true,if_true]; exact .cons h ih
section
variable {κ:Type} [DecidableEq κ] {knd:HeapKind prog w κ}
theorem uu {d a:Addr} {xs:List (κ × Addr × Value)} {k:κ} {Q:Option DictEntry → Shared → Prop} (hu:knd.room A) (hkey:knd.is s.heap k a) (hm:s.heap.DictOfH knd d xs) (hp:(atKey xs k).isSome = true) (hsz:xs.length ≤ sizeLine)
  (hQ:∀ e h' o es ep,h'.get? d = some o → o.ExactDict → o.data = .dict es ep → es.toList = (xs.filter fun x=>decide (x.1 ≠ k)).map (entryOfKey knd) → Heap.SameBut d s.heap h' → Q (some e) { s with heap:=h',toks:=s.toks + knd.draws k }) :
  wpAny (model prog w) A (Builtin.Dict.takeOut d (.ref a)) Q E s:=by
 obtain ⟨o,es,ep,ho,hc,hd,he,his,hn⟩:=hm
 unfold Builtin.Dict.takeOut
 try with_reducible refine wpAny_holding ?_
 refine wpAny_bind (knd.pyHash hu hkey (wpAny_bind (wpAny_dictFind_heap (s:={ s with toks:=s.toks + knd.draws k }) hu hkey ho hd he his hn ?_ ?_)))
 ·intro hno
  rw [atKey_none_of_get hno] at hp; cases hp
 ·intro j p hj
  refine wpAny_bind (wpAny_dictEntries (s:={ s with toks:=s.toks + knd.draws k }) ho hd ?_)
  rw [entry_at he j,hj]
  have hes:es.size ≤ sizeLine:=by have e:=size_of_entries he; omega
  refine wpAny_bind (wpAny_updateDictKeys (hz:=hes) (s:={ s with toks:=s.toks + knd.draws k }) ho hd (wpAny_pure (hQ _ _ _ _ (ep + 1) (Heap.get?_update_self _ ho (Obj.isFreed_of_dict (Obj.data_mapDictKeys hd _))) (hc.mapDictKeys _) (Obj.data_mapDictKeys hd _) ?_ (Heap.SameBut.update ..))))
  rw [← k9 hn hj]
  have hjl:j < es.size:=by rw [size_of_entries he]; exact (List.getElem?_eq_some_iff.mp hj).1
  have e2:(es.eraseIdxIfInBounds j).toList = es.toList.eraseIdx j:=by
   obtain ⟨l⟩:=es
   simp
  rw [e2,he]
  exact sG _ xs j
end
section
variable {σ:L2.St} {a b:Addr} {kvs:List (List bj × V)} {k:List bj}
theorem xQ {Q:Unit → Shared → Prop} (hu:A.units + 1 < cLine) (I:aG X pins σ H s) (e:H a = some (.dT kvs)) (eb:H b = some (.tup (k.map kV))) (l:(cX kvs k).isSome = true) (h:∀ s',aG X pins σ (upd H a (.dT (gw kvs k))) s' → Q () s') :
  wpAny (model X.prog X.w) A (delItem (.ref a) (.ref b)) Q E s:=by
 obtain ⟨z,hd,xs,rel,dd⟩:=FX I.hok e
 have hp:(atKey xs k).isSome = true:=by
  have q:=(rel.val k).isSome_eq
  rw [Option.isSome_map] at q
  rw [← q]; exact l
 have hz:xs.length ≤ sizeLine:=by rw [← Paired.length rel]; exact z
 refine wpAny_delItem_slot dd.typeIs (by decide) PySem.F.slot_dict_delitem (wpAny_call_entry PySem.F.slot_dict_delitem dd.typeIs PySem.F.entry_dict_delitem ?_ (PySem.F.args_dict_delitem_2 _ _))
 unfold Builtin.«dict.__delitem__»
 refine wpAny_bind ?_
 unfold Builtin.Dict.dictSlotArgs
 refine wpAny_bind (wpAny_notOrdered_dict dd.typeIs ?_)
 show wpAny _ _ (pure (Value.ref a,Value.ref b)) _ _ s
 refine wpAny_pure ?_
 show wpAny _ _ (Builtin.Dict.takeOut a (.ref b) >>= _) _ _ s
 refine wpAny_bind (uu (tupleKind_room_in1 hu) (L2.dc I.hok eb) dd hp hz fun en h' o es ep e1 e2 e3 e4 sb=>?_)
 refine wpAny_bind (wpAny_letGo (wpAny_pure ⟨.none,rfl,h _ ?_⟩))
 have hn:((xs.filter fun x=>decide (x.1 ≠ k)).map (·.1)).Nodup:=by
  obtain ⟨_,_,_,_,_,_,_,_,hn⟩:=dd
  exact List.Sublist.nodup (List.Sublist.map _ List.filter_sublist) hn
 refine kr I (by rw [e]; exact True.intro) sb ⟨o,e1⟩ ⟨Nat.le_trans (vt kvs k) z,hd,_,(KT.drop rel k).keeps fun c ys ec=>?_,o,es,ep,e1,e2,e3,e4,hn⟩
 rw [am (FL ec e (fun z=>nomatch z))]
 exact ec
end
def JA (H:Hp) (a:Addr) (y:V) (H':Hp):Prop :=
 (∃ kvs k,H a = some (.dK kvs) ∧ y = kV k ∧ (cX kvs k).isSome = true ∧ H' = upd H a (.dK (gw kvs k))) ∨
 ∃ kvs k b,H a = some (.dT kvs) ∧ y = .ref b ∧ H b = some (.tup (k.map kV)) ∧ (cX kvs k).isSome = true ∧ H' = upd H a (.dT (gw kvs k))
def HR (td ty:TE):TS:=fun D σ H=>td σ H fun x H1=>ty σ H1 fun y H2=>∃ a H',x = .ref a ∧ JA H2 a y H' ∧ D.nx σ H'
theorem Dr {o i:Expr} {pos tpos:Pos} {td ty:TE} (hu:X.A.units + 1 < cLine) (ho:PE X o td) (hi:PE X i ty):PS X (.Delete [.Subscript o i tpos] pos) (HR td ty):=by
 intro pins s σ H D I h
 refine wpAny_Delete (wpAny_deleteEach_cons (wpAny_delete_Subscript (bw (ho pins s σ H _ I h) fun u s1 ⟨x,H1,I1,rx,q1⟩=>bw (hi pins s1 σ H1 _ I1 q1) fun iv s2 ⟨y,H2,I2,ry,a,H',ex,g,q2⟩=>?_)))
 subst ex
 obtain rfl:u = Value.ref a:=rx
 rcases g with ⟨kvs,k,e,rfl,l,rfl⟩ | ⟨kvs,k,b,e,rfl,eb,l,rfl⟩
 ·exact zS I2 e ry l fun s3 I3=>wpAny_deleteEach_nil ⟨σ,_,I3,q2⟩
 ·cases (show iv = Value.ref b from ry)
  exact xQ hu I2 e eb l fun s3 I3=>wpAny_deleteEach_nil ⟨σ,_,I3,q2⟩
end L2
namespace RB
open PySem L2
def zo (S:aT) (x y:AV):Option aT:=match x with
 | .ref n=>match S.t.get n with
  | some (.dk kvs)=>match fg y with
   | true=>match dN kvs y with
    | some _=>some (S.set n (.dk (mI kvs y)))
    | none=>none
   | false=>none
  | some (.dt kvs)=>match eZ y with
   | true=>match dN kvs y with
    | some _=>some (S.set n (.dt (mI kvs y)))
    | none=>none
   | false=>none
  | _=>none
 | _=>none
def Dt (a b:BE):BS:=fun d σ S=>a σ S fun x S1=>b σ S1 fun z S2=>match zo S2 x z with
 | some S3=>d.nx σ S3
 | none=>false
section
variable {S:aT}
theorem Du (C:aM g F y ρ S H) {ax ak:AV} {x k:V} (rx:aY F y ρ H ax x) (rk:aY F y ρ H ak k) {S':aT} (h:zo S ax ak = some S') :
  ∃ a H',x = .ref a ∧ JA H a k H' ∧ aD F y ρ H y ρ H' ∧ aM g F y ρ S' H':=by
 unfold zo at h
 split at h
 ·rename_i n
  split at h
  ·rename_i kvs q
   split at h
   ·rename_i q2
    split at h
    ·rename_i v q3
     cases h
     obtain ⟨a,ks,rfl,hρ,ha,pr⟩:=C.dk rx q
     obtain ⟨kk,hk,rfl⟩:=RB.dc q2 rk
     have st:aD F y ρ H y ρ (upd H a (.dK (gw ks kk))):=aD.set C hρ ha
     obtain ⟨l1,l2⟩:=gI (KR:=gG) (R:=aY F y ρ H) (fun _ _ _ _ h1 h2=>fZ h1 h2) hk pr
     obtain ⟨v',hv,_⟩:=l1 v q3
     refine ⟨a,_,rfl,.inl ⟨ks,kk,ha,rfl,by rw [hv]; rfl,rfl⟩,st,C.set hρ ha (o:=.dk (mI kvs ak)) (ob:=⟨_,rfl,?_⟩)⟩
     exact kT (KR:=gG) (R:=aY F y ρ _) (fun _ _ _ _ h1 h2=>fZ h1 h2) hk (a0 (fun _ _ z=>⟨z.1,aY.mono st z.2⟩) pr)
    ·cases h
   ·cases h
  ·rename_i kvs q
   split at h
   ·rename_i q2
    split at h
    ·rename_i v q3
     cases h
     obtain ⟨a,ks,rfl,hρ,ha,pr⟩:=C.dt rx q
     obtain ⟨kk,b,hk,rfl,hb⟩:=tY q2 rk
     have st:aD F y ρ H y ρ (upd H a (.dT (gw ks kk))):=aD.set C hρ ha
     obtain ⟨l1,l2⟩:=gI (KR:=fY) (R:=aY F y ρ H) (fun _ _ _ _ h1 h2=>iP h1 h2) hk pr
     obtain ⟨v',hv,_⟩:=l1 v q3
     refine ⟨a,_,rfl,.inr ⟨ks,kk,b,ha,rfl,hb,by rw [hv]; rfl,rfl⟩,st,C.set hρ ha (o:=.dt (mI kvs ak)) (ob:=⟨_,rfl,?_⟩)⟩
     exact kT (KR:=fY) (R:=aY F y ρ _) (fun _ _ _ _ h1 h2=>iP h1 h2) hk (a0 (fun _ _ z=>⟨z.1,aY.mono st z.2⟩) pr)
    ·cases h
   ·cases h
  ·cases h
 ·cases h
end
section
variable {o i:Expr} {ba bb:BE} {pos tpos:Pos}
theorem zp (hu:X.A.units + 1 < cLine) (ho:PE X o (up g ba)) (hi:PE X i (up g bb)):PS X (.Delete [.Subscript o i tpos] pos) (dh g (Dt ba bb)):=by
 refine PS.imp (fun D σ H ⟨F,y,ρ,S,σa,d,C,r,h,p,_⟩=>?_) (Dr hu ho hi)
 refine ay C r h fun y1 ρ1 S1 H1 ax x st C1 r1 rx h1=>ay C1 r1 h1 fun y2 ρ2 S2 H2 az z st2 C2 r2 rz h2=>?_
 cases q:zo S2 ax az with
 | none=>simp only [q] at h2; cases h2
 | some S4 =>
  simp only [q] at h2
  obtain ⟨a,H',rfl,dp,st4,C4⟩:=Du C2 (aY.mono st2 rx) rz q
  exact ⟨a,H',rfl,dp,p y2 ρ2 S4 H' σa σ ((st.trans st2).trans st4) C4 (bE.mono st4 r2) h2⟩
end
end RB
namespace RB
open PySem PySem.Spec PyProof.Rows L2
def Dv (i:Nat):List Nat → Bool
 | []=>false
 | j :: r=>match Nat.beq j i with
  | true=>true
  | false=>Dv i r
def Dw (K:PySem.W.Frag) (mg:Str → Option Value) (nm:Str) (tab:List Nat):Prop :=
 ∃ a o its n,mg nm = some (.ref a) ∧ K.lookup a = some o ∧ o.cls = .type "tuple" ∧ o.data = .seq its n ∧ its.size ≤ sizeLine ∧ Paired (fun i u=>∃ x t,bf[i]? = some x ∧ u = .str x t) tab its.toList
def Dx (neg:Bool) (tab:List Nat) (a:BE):BE:=fun σ S k=>a σ S fun x S1=>match x with
 | .str i=>k (.bl (match neg with
  | true=>!Dv i tab
  | false=>Dv i tab)) S1
 | _=>false
theorem sH:∀ {tab:List Nat} {us:List Value},Paired (fun i u=>∃ x t,bf[i]? = some x ∧ u = .str x t) tab us → ∃ xs:List Str,Paired (fun i x=>bf[i]? = some x) tab xs ∧ aN (xs.map V.str) us
 | _,_,.nil=>⟨[],.nil,.nil⟩
 | _,_,.cons ⟨x,t,e1,e2⟩ r=>by
  obtain ⟨xs,h1,h2⟩:=sH r
  exact ⟨x :: xs,.cons e1 h1,.cons ⟨t,e2⟩ h2⟩
theorem zq {i:Nat} {x:Str} (hx:bf[i]? = some x):∀ {tab:List Nat} {xs:List Str},Paired (fun i x=>bf[i]? = some x) tab xs → D8 (.str x) (xs.map V.str) = Dv i tab
 | _,_,.nil=>rfl
 | j :: tab,_,.cons (b:=z) e r=>by
  have ih:=zq hx r
  unfold D8 at ih ⊢
  unfold Dv
  rw [List.map_cons,List.any_cons,ih,fU]
  by_cases q:j = i
  ·subst q
   rw [hx] at e; cases e
   simp [wO]
  ·have:¬ z = x:=fun w=>q (by subst w; exact d9 e hx)
   simp [q,wO,this]
theorem AL (xs:List Str):(xs.map V.str).all eM = true:=by
 induction xs with
 | nil=>rfl
 | cons x r ih=>rw [List.map_cons,List.all_cons,ih]; rfl
section
variable {a b c e o i:Expr} {ba bb bc:BE} {bt:BT} {br bk:BA} {s1 s2:BS} {pos p:Pos} {es rest:List Expr} {nm:Str} {tab:List Nat}
theorem Fk {neg:Bool} {mg:Str → Option Value} {av:Addr} {ob:Obj} {its:Array Value} {n:Nat} (h1:K.lookup av = some ob) (h2:ob.cls = .type "tuple") (h3:ob.data = .seq its n) (h4:its.size ≤ sizeLine) (h5:Paired (fun i u=>∃ x t,bf[i]? = some x ∧ u = .str x t) tab its.toList) :
  ∀ σ H Q,up g (Dx neg tab ba) σ H Q → GJ (Kk K neg) (up g ba) (tC (.ref av)) σ H Q:=fun σ H Q ⟨F,y,ρ,S,σa,k,C,r,h,p⟩ =>
 ay C r h fun y1 ρ1 S1 H1 ax x st C1 r1 rx hk=>by
  split at hk
  ·rename_i i
   obtain ⟨z,e,rfl⟩:=rx
   obtain ⟨xs,q1,q2⟩:=sH h5
   refine ⟨av,xs.map V.str,rfl,.inr (.inr ⟨ob,its,n,h1,h2,h3,h4,q2⟩),rfl,AL xs,?_⟩
   rw [zq e q1]
   refine p y1 ρ1 S1 H1 (.bl _) _ st C1 ?_ hk
   cases neg <;> rfl
  ·cases hk
theorem uw (hg:Gl X nm) (T:Dw X.K X.mg nm tab) (ha:PE X a (up g ba)) (hm:behindInMarks .NotIn (.Name nm p) = false) (hd:(nm == ("__debug__":Str)) = false:=by decide):PT X (.Compare a [.NotIn] [.Name nm p] pos) (fw g (bB (Dx true tab ba))):=by
 obtain ⟨av,ob,its,n,h0,h1,h2,h3,h4,h5⟩:=T
 exact PT.imp (fH (Fk (mg:=X.mg) h1 h2 h3 h4 h5)) (tq km ha (Ec hg h0 rfl hd) hm)
def Fl (gy:Gy):AV → Value → Prop
 | .str i,u=>∃ x t,bf[i]? = some x ∧ u = .str x t
 | .ext j,u=>j < 11 ∧ u = .ref (gy.fe j)
 | _,_=>False
def Fm (P:Program) (w:World) (K:PySem.W.Frag) (mg:Str → Option Value) (gy:Gy) (nm:Str) (tab:List (AV × AV)):Prop :=
 ∃ a vs,mg nm = some (.ref a) ∧ (∀ h,K.In h → h.DictOf (aU P w) a vs) ∧ Paired (fun (p:AV × AV) (q:bj × Value)=>gG p.1 q.1 ∧ Fl gy p.2 q.2) tab vs
def Dy (tab:List (AV × AV)) (a:BE):BE:=fun σ S k=>a σ S fun x S1=>match fg x with
 | true=>match dN tab x with
  | some v=>k v S1
  | none=>false
 | false=>false
theorem Gk {gy:Gy} {ak:AV} {kk:bj} (hk:gG ak kk):∀ {tab:List (AV × AV)} {vs:List (bj × Value)} {av:AV},Paired (fun (p:AV × AV) (q:bj × Value)=>gG p.1 q.1 ∧ Fl gy p.2 q.2) tab vs → dN tab ak = some av → ∃ u,valueAt vs kk = some u ∧ Fl gy av u
 | _,_,_,.nil,h=>by cases h
 | _,_,av,.cons (a:=(l,w)) (b:=(l',v)) hd tl,h=>by
  obtain ⟨h1,h2⟩:=hd
  dsimp only at h1 h2
  unfold dN at h
  rw [fZ h1 hk] at h
  by_cases q:l' = kk
  ·subst q
   simp at h
   subst h
   exact ⟨v,by simp [valueAt],h2⟩
  ·simp [q] at h
   obtain ⟨u,e1,e2⟩:=Gk hk tl h
   exact ⟨u,by rw [← e1]; simp [valueAt,List.find?_cons,q],e2⟩
theorem zr (hg:Gl X nm) {tab:List (AV × AV)} (T:Fm X.prog X.w X.K X.mg g.toGy nm tab) (hi:PE X i (up g bb)) (hs:BC i) (hd:(nm == ("__debug__":Str)) = false:=by decide):PE X (.Subscript (.Name nm p) i pos) (up g (Dy tab bb)):=by
 obtain ⟨av,vs,h0,h1,h2⟩:=T
 intro pins s σ H Q I ⟨F,y,ρ,S,σa,k,C,r,h,pp⟩
 refine tG PySem.F.slot_dict_getitem.lookup hs (gU I hg h0 ?_ hd)
 refine bw (hi pins s σ H (fun x H1=>∃ kk v u,x = kV kk ∧ valueAt vs kk = some u ∧ aO v u ∧ Q v H1) I (ay C r h fun y1 ρ1 S1 H1 ax x st C1 r1 rx hk=>?_)) fun iv s1 ⟨x,H1,I1,rx,kk,v,u,ex,e1,ru,q⟩=>?_
 ·split at hk
  ·rename_i q1
   split at hk
   ·rename_i v q2
    obtain ⟨kk,hkk,rfl⟩:=RB.dc q1 rx
    obtain ⟨u,e1,e2⟩:=Gk hkk h2 q2
    cases v with
    | str j =>
     obtain ⟨z,t,e3,rfl⟩:=e2
     exact ⟨kk,.str z,_,rfl,e1,⟨t,rfl⟩,pp y1 ρ1 S1 H1 (.str j) _ st C1 ⟨z,e3,rfl⟩ hk⟩
    | ext j =>
     obtain ⟨e3,rfl⟩:=e2
     exact ⟨kk,.ref (g.fe j),_,rfl,e1,rfl,pp y1 ρ1 S1 H1 (.ext j) _ st C1 (C1.fe j e3).symm hk⟩
    | _=>exact e2.elim
   ·cases hk
  ·cases hk
 ·subst ex
  have dd:=h1 _ I1.kIn
  exact ⟨dd.typeIs,wpAny_getItem_of (iL rx) dd.mapOf e1 ⟨v,H1,I1.tok _,ru,q⟩⟩
def Fo:List (Option BF) → Nat → Option BF
 | [],_=>none
 | x :: r,n=>match n with
  | 0=>x
  | n + 1=>Fo r n
def zt (P:Program) (w:World) (K:PySem.W.Frag) (mg:Str → Option Value) (base:Heap) (gy:Gy) (k n:Nat) (fs:List (Option BF)):Prop :=
 ∀ j f,Fo fs j = some f → j < 11 ∧ ∃ fd ps,ps.length = n ∧ db P w K mg base fT k (gy.fe j) fd ps (r8 gy n f) ∧ PySem.W.keepIn K (.ref (gy.fe j)) = true ∧ dH K fd ps []
def Dz (n:Nat) (fs:List (Option BF)) (a:BE) (r:BA):BE:=fun σ S k=>a σ S fun x S1=>match x with
 | .ext j=>match Fo fs j with
  | some f=>r σ S1 fun xs S2=>bJ n f xs S2 k σ.ke
  | none=>false
 | _=>false
theorem DA {x:Str} {kk n:Nat} {fs:List (Option BF)} (hn:PE X (.Name x p) (up g ba)) (T:zt X.prog X.w X.K X.mg X.base g.toGy kk n fs) (hr:bQ kk X.A) (ha:PA X (e :: es) (jM g br))
  (he:starEach (e :: es) X.env = (false,eval e X.env) :: starEach es X.env:=by with_unfolding_all rfl) (hpl:(backTo pos (starEach es X.env)).any (·.1) = false:=by with_unfolding_all rfl):PE X (.Call (.Name x p) (e :: es) [] pos) (up g (Dz n fs ba br)):=by
 intro pins s σ H Q I ⟨F,y,ρ,S,σa,k,C,r,h,pp⟩
 refine wpAny_Call_Name_kw (bw (hn pins s σ H (fun v H1=>∃ j f y1 ρ1 S1,v = .ref (g.fe j) ∧ Fo fs j = some f ∧ aD F y ρ H y1 ρ1 H1 ∧ aM g F y1 ρ1 S1 H1 ∧ bE g F y1 ρ1 H1 σa σ ∧ br σa S1 (fun xs S2=>bJ n f xs S2 k σa.ke) = true) I (ay C r h fun y1 ρ1 S1 H1 ax x st C1 r1 rx h1=>?_)) fun u s1 ⟨v,H1,I1,rv,j,f,y1,ρ1,S1,ev,ej,st1,C1,r1,h1⟩=>?_)
 ·split at h1
  ·rename_i j
   split at h1
   ·rename_i f q
    have:=(T j f q).1
    exact ⟨j,f,y1,ρ1,S1,by rw [← C1.fe j this]; exact rx,q,st,C1,r1,h1⟩
   ·cases h1
  ·cases h1
 ·subst ev
  obtain rfl:u = Value.ref (g.fe j):=rv
  obtain ⟨_,fd,ps,hps,Fn,hk,hb⟩:=T j f ej
  refine PySem.W.callWith_K (h₀:=X.base) I.ok.mod.kin hk (bw (ha pos pins s1 σ H1 (fun vs H2=>r8 g.toGy n f vs H2 Q g.E) I1 (bT C1 r1 h1 fun y2 ρ2 S2 H2 axs xs st2 C2 r2 rxs h2=>?_)) fun us s2 ⟨vs,H2,I2,rvs,q⟩=>⟨I2.kIn,?_⟩) he hpl
  ·unfold bJ at h2
   cases q3:Nat.beq axs.length n with
   | false=>simp only [q3] at h2; cases h2
   | true =>
    simp only [q3] at h2
    exact ⟨F,y2,ρ2,S2,_,k,σa.ke,C2,rxs,by rw [← aR rxs]; exact Nat.eq_of_beq_eq_true q3,h2,pp.mono (st1.trans st2),r2.e⟩
  ·exact ou Fn hr hb .nil (fun _ _ _ _ _ _ _ h=>h.elim) I2 rvs (by rw [List.append_nil]; exact q)
theorem Fp {body:List Stmt} {h0:ExceptHandler} {hs:List ExceptHandler} (h:iz X body (dh g s1)) (hx:∀ e s,X.xe e s → False:=by with_unfolding_all (exact fun _ _ h=>h)):PS X (.Try body (h0 :: hs) [] [] pos) (dh g s1):=E6 hx h
end
abbrev K4 (F:Fx) (y:Option Int) (ρ:List Addr) (H:Hp):List (AV × AV) → List (V × V) → Prop:=Paired fun p q=>aY F y ρ H p.1 q.1 ∧ aY F y ρ H p.2 q.2
def La (g:Gx) (b:BP) (σ:L2.St) (H:Hp) (Q:List (V × V) → Hp → Prop):Prop:=∃ F y ρ S σa k,aM g F y ρ S H ∧ bE g F y ρ H σa σ ∧ b σa S k = true ∧ ∀ y' ρ' S' H' aps ps,aD F y ρ H y' ρ' H' → aM g F y' ρ' S' H' → K4 F y' ρ' H' aps ps → k aps S' = true → Q ps H'
def J1 (X:Cx) (g:Gx) (pos:Pos) (keys:List (Option Expr)) (values:List Expr) (b:BP):Prop:=∃ trs,Jf X pos keys values trs ∧ ∀ σ H Q,La g b σ H Q → oA trs σ H Q
def lb:List (AV × AV) → Bool
 | []=>true
 | (k,_) :: r=>fg k && lb r
def o7 (kvs:List (AV × AV)):List (AV × AV) → List (AV × AV)
 | []=>kvs
 | (k,v) :: r=>o7 (qC kvs k v) r
def Gm (b:BP):BE:=fun σ S k=>b σ S fun aps S1=>match lb aps && Nat.ble aps.length 15 with
 | true=>k (.ref S1.n) (S1.add (.dk (o7 [] aps)))
 | false=>false
section
variable {a b c e o i:Expr} {ba bb bc:BE} {bt:BT} {br bk:BA} {s1 s2:BS} {pos p:Pos} {es rest:List Expr}
theorem Fq:J1 X g pos [] [] Gf:=⟨[],yE,fun σ H Q ⟨F,y,ρ,S,σa,k,C,r,h,p⟩=>p y ρ S H [] [] .refl C .nil h⟩
theorem o8 {ks:List (Option Expr)} {vs:List Expr} {bp:BP} (hk:PE X a (up g ba)) (hv:PE X b (up g bb)) (hr:J1 X g pos ks vs bp):J1 X g pos (some a :: ks) (b :: vs) (ub ba bb bp):=by
 obtain ⟨trs,h1,h2⟩:=hr
 refine ⟨(up g ba,up g bb) :: trs,oB hk hv h1,fun σ H Q ⟨F,y,ρ,S,σa,k,C,r,h,p⟩=>?_⟩
 refine ay C r h fun y1 ρ1 S1 H1 ax x st C1 r1 rx h1=>ay C1 r1 h1 fun y2 ρ2 S2 H2 az z st2 C2 r2 rz h2'=>?_
 refine h2 σ H2 _ ⟨F,y2,ρ2,S2,σa,_,C2,r2,h2',fun y3 ρ3 S3 H3 aps ps st3 C3 r3 h3=>?_⟩
 exact p y3 ρ3 S3 H3 ((ax,az) :: aps) ((x,z) :: ps) ((st.trans st2).trans st3) C3 (.cons ⟨aY.mono (st2.trans st3) rx,aY.mono st3 rz⟩ r3) h3
theorem wl {F:Fx} {y:Option Int} {ρ:List Addr} {H:Hp}:∀ {aps:List (AV × AV)} {ps:List (V × V)},K4 F y ρ H aps ps → lb aps = true → ∃ kvs:List (bj × V),ps = kvs.map (fun kv=>(kV kv.1,kv.2)) ∧ AB F y ρ H aps kvs
 | _,_,.nil,_=>⟨[],rfl,.nil⟩
 | (ka,va) :: _,(k,v) :: _,.cons h t,e=>by
  simp only [lb,Bool.and_eq_true] at e
  obtain ⟨kvs,e1,h1⟩:=wl t e.2
  obtain ⟨kk,hk,ek⟩:=RB.dc e.1 h.1
  refine ⟨(kk,v) :: kvs,?_,.cons ⟨hk,h.2⟩ h1⟩
  rw [List.map_cons,← e1]
  dsimp only at ek
  rw [← ek]
theorem wm {F:Fx} {y:Option Int} {ρ:List Addr} {H:Hp}:∀ {more:List (AV × AV)} {ms:List (bj × V)} {kvs:List (AV × AV)} {ks:List (bj × V)},AB F y ρ H more ms → AB F y ρ H kvs ks → AB F y ρ H (o7 kvs more) (dm ks ms)
 | _,_,_,_,.nil,h=>h
 | (k,v) :: _,(k',v') :: _,kvs,ks,.cons h t,h0=>by
  unfold o7
  show AB F y ρ H _ (dm (cR ks k' v') _)
  exact wm t (nS (KR:=gG) (R:=aY F y ρ H) (fun _ _ _ _ h1 h2=>fZ h1 h2) h.1 h.2 h0)
theorem Fs {keys:List (Option Expr)} {values:List Expr} {bp:BP} (h:J1 X g pos keys values bp) (hall:keys.all (·.isSome) = true) (hl:keys.length = values.length) (h0:keys ≠ []) (h15:keys.length ≤ 15):PE X (.Dict keys values pos) (up g (Gm bp)):=by
 obtain ⟨trs,h1,h2⟩:=h
 refine PE.imp (fun σ H Q ⟨F,y,ρ,S,σa,k,C,r,h,p⟩=>?_) (yF h1 hall hl h0 h15)
 intro D e1
 have o1:¬ F.own D:=fun w=>C.ol D w e1
 have stA:aD F y ρ H y ρ (upd H D (.dK [])):=aD.lay e1
 refine h2 σ _ _ ⟨F,y,ρ,S,σa,_,C.lay e1,bE.mono stA r,h,fun y2 ρ2 S2 H2 aps ps st2 C2 rp hk=>?_⟩
 cases q:lb aps && Nat.ble aps.length 15 with
 | false=>simp only [q] at hk; cases hk
 | true =>
  simp only [q] at hk
  simp only [Bool.and_eq_true] at q
  have nD:D ∉ ρ:=C.fresh e1
  have hD:H2 D = some (.dK []):=st2.keep D _ aC nD o1
  have nD2:D ∉ ρ2:=fun m=>by
   rcases st2.new D m with z | z
   ·exact nD z
   ·rw [aC] at z; cases z
  obtain ⟨kvs,rfl,rk⟩:=wl rp q.1
  have hlen:=Paired.length rk
  refine ⟨hD,kvs,rfl,by rw [← hlen]; exact bO q.2,?_⟩
  have tD:∀ b o,H2 b = some o → (∀ u,o ≠ .dK u) → b ≠ D:=fun b o q n w=>by rw [w,hD] at q; cases q; exact n _ rfl
  have stF:aD F y ρ H y2 (ρ2 ++ [D]) (upd H2 D (.dK (dm [] kvs))):=((stA.trans st2).over e1).more e1
  have moF:Mo y2 ρ2 H2 y2 (ρ2 ++ [D]) (upd H2 D (.dK (dm [] kvs))):=⟨fun _ h=>h,fun {i c} h=>by
   rw [List.getElem?_append_left (List.getElem?_eq_some_iff.mp h).1]; exact h,fun b vs q=>by rw [am (tD b _ q fun _ z=>nomatch z)]; exact q⟩
  have rkF:AB F y2 (ρ2 ++ [D]) (upd H2 D (.dK (dm [] kvs))) aps kvs:=a0 (fun _ _ z=>⟨z.1,aY.monoM moF z.2⟩) rk
  have CB:aM g F y2 ρ2 S2 (fun b=>if b = D then none else H2 b):=C2.over
   (fun b hb=>if_neg fun w=>nD2 (by rw [← w]; exact hb))
   (fun b vs q=>(if_neg (tD b _ q fun _ z=>nomatch z)).trans q)
   (fun b w=>if_neg fun q=>o1 (by rw [← q]; exact w))
   (fun b φ q=>(if_neg (tD b _ q fun _ z=>nomatch z)).trans q)
  have eq:upd (fun b=>if b = D then none else H2 b) D (.dK (dm [] kvs)) = upd H2 D (.dK (dm [] kvs)):=by
   funext b
   by_cases z:b = D
   ·subst z; rw [aC,aC]
   ·rw [am z,am z]; simp [z]
  have CF:=CB.add (p:=D) (o:=.dk (o7 [] aps)) (ho:=.dK (dm [] kvs)) (by simp) (by rw [eq]; exact ⟨_,rfl,wm rkF .nil⟩)
  rw [eq] at CF
  exact p y2 _ _ _ (.ref S2.n) _ stF CF ⟨D,by rw [C2.n]; simp,rfl⟩ hk
def KH (P:Program) (w:World) (K:PySem.W.Frag) (mg:Str → Option Value) (base:Heap) (gy:Gy) (CX:tz) (c:Nat) (x:Str) (k n np:Nat) (ks:List Str) (tpl:List t7) (f:BF):Prop :=
 ∃ fa fd ps,ps.length = n ∧ db P w K mg base CX k fa fd ps (r8 gy n f) ∧ Mk K (gy.cl c) fa ∧ mg x = some (.ref (gy.cl c)) ∧ kZ K fd ps ks np tpl ∧ qF tpl
def DB (c n np nk:Nat) (tpl:List t7) (f:BF) (r kw:BA):BE:=fun σ S k=>r σ S fun xs S1=>kw σ S1 fun zs S2=>match Nat.beq (xs.length + 1) np && Nat.beq zs.length nk with
 | true=>bJ n f (.ref S2.n :: (xs ++ nq zs tpl)) (S2.add (.ins c [])) (fun v S3=>match v with
  | .non=>k (.ref S2.n) S3
  | _=>false) σ.ke
 | false=>false
theorem AM {CX:tz} {k np:Nat} {C fa:Addr} {ps ks:List Str} {tpl:List t7} {sp:Sp} {σ:L2.St} {Q:VK} {us ws:List Value} {vs zs:List V} (M:Mk X.K C fa) (F:db X.prog X.w X.K X.mg X.base CX k fa fd ps sp) (hr:bQ (k + 1) X.A) (hb:kZ X.K fd ps ks np tpl) (ht:qF tpl) (hx:cW CX X g.E)
  (I:aG X pins σ H s) (r:aN vs us) (rz:aN zs ws) (h1:vs.length + 1 = np) (h2:zs.length = ks.length)
  (h:∀ x dx,H x = none → H dx = none → dx ≠ x → sp (.ref x :: (vs ++ nr zs tpl)) (upd (upd H dx (.own x)) x (.ins C dx [])) (fun v H2=>v = .non ∧ Q (.ref x) H2) g.E) :
  wpAny (model X.prog X.w) X.A (call (.ref C) us (ks.zip ws)) (EP X pins σ Q) X.xe s:=by
 have hq:=h (s.heap.objs.size + 1) s.heap.objs.size (I.hok.fresh (Nat.le_succ _)) (I.hok.fresh (Nat.le_refl _)) (Nat.ne_of_lt (Nat.lt_succ_self _))
 have I2:=aG.made (C:=C) I
 have r2:aN (V.ref (s.heap.objs.size + 1) :: (vs ++ nr zs tpl)) (Value.ref (s.heap.objs.size + 1) :: (us ++ v1 ws tpl)):=.cons rfl (r.append (n5 rz ht))
 refine wpAny_call (vm (f:=fa) I.kIn M.makes M.init (beq_iff_eq.mp M.fn) (codeAny_mono (F.run _ X.stack _ _ ⟨Value.ref (s.heap.objs.size + 1) :: us,ks.zip ws⟩ (Value.ref (s.heap.objs.size + 1) :: (us ++ v1 ws tpl)) _ _ g.E (hr.make C us (ks.zip ws))
  (I2.env0.make C us (ks.zip ws)) (hb _ (Value.ref (s.heap.objs.size + 1) :: us) ws I2.kIn (by rw [List.length_cons,← r.length]; exact h1) (by rw [← rz.length]; exact h2)) r2 hq) fun r s' hq'=>?_))
 cases r with
 | error e=>exact hx pins σ _ _ e s' I2 hq'
 | ok fl =>
  cases fl with
  | ret u =>
   obtain ⟨v,H',I3,rv,ev,q3⟩:=I2.after hq'
   subst ev
   exact ⟨rv,⟨V.ref (s.heap.objs.size + 1),H',I3,rfl,q3⟩⟩
  | next=>exact False.elim hq'
  | brk=>exact False.elim hq'
  | cont=>exact False.elim hq'
theorem DC {CX:tz} {x:Str} {c k n np:Nat} {ks:List Str} {tpl:List t7} {kws:List Keyword} {f:BF} (hc:c < 2) (M:KH X.prog X.w X.K X.mg X.base g.toGy CX c x k n np ks tpl f) (hr:bQ (k + 1) X.A) (hx:cW CX X g.E) (ha:PA X (e :: es) (jM g br)) (hkw:PK X kws (jM g bk)) (hg:Gl X x:=by with_unfolding_all rfl) (hdb:(x == ("__debug__":Str)) = false:=by decide)
  (hall:(backToKw pos (keywordEach kws X.env)).all (·.1.isSome) = true:=by with_unfolding_all rfl) (hks:(backToKw pos (keywordEach kws X.env)).filterMap (·.1) = ks:=by with_unfolding_all rfl)
  (hst:starEach (e :: es) X.env = (false,eval e X.env) :: starEach es X.env:=by with_unfolding_all rfl)
  (hpl:((backTo pos (starEach (e :: es) X.env)).any (·.1) || (backToKw pos (keywordEach kws X.env)).any (·.1.isNone)) = false:=by with_unfolding_all rfl):PE X (.Call (.Name x p) (e :: es) kws pos) (up g (DB c n np ks.length tpl f br bk)):=by
 obtain ⟨fa,fd,ps,hn,Fn,mk,hm,hb,hk⟩:=M
 intro pins s σ H Q I ⟨F,y,ρ,S,σa,kk,C,r,h,pp⟩
 refine wpAny_Call_Name_kw (gU I hg hm ?_ hdb)
 refine PySem.W.callWith_KW (h₀:=X.base) I.ok.mod.kin mk.kp hall (bw (ha pos pins s σ H (fun xs H2=>∃ axs y2 ρ2 S2,aD F y ρ H y2 ρ2 H2 ∧ aM g F y2 ρ2 S2 H2 ∧ bE g F y2 ρ2 H2 σa σ ∧ aX F y2 ρ2 H2 axs xs ∧
   bk σa S2 (fun zs S2=>match Nat.beq (axs.length + 1) np && Nat.beq zs.length ks.length with
    | true=>bJ n f (.ref S2.n :: (axs ++ nq zs tpl)) (S2.add (.ins c [])) (fun v S3=>match v with
     | .non=>kk (.ref S2.n) S3
     | _=>false) σa.ke
    | false=>false) = true) I (bT C r h fun y2 ρ2 S2 H2 axs xs st2 C2 r2 rxs h2=>⟨axs,y2,ρ2,S2,st2,C2,r2,rxs,h2⟩)) fun us s2 ⟨vs,H2,I2,rv,axs,y2,ρ2,S2,st2,C2,r2,rxs,h2⟩=>?_) hpl hst
 refine bw (hkw pos pins s2 σ H2 (fun zs H3=>zs.length = ks.length ∧ vs.length + 1 = np ∧ ∀ x dx,H3 x = none → H3 dx = none → dx ≠ x → r8 g.toGy n f (.ref x :: (vs ++ nr zs tpl)) (upd (upd H3 dx (.own x)) x (.ins (g.cl c) dx [])) (fun v H2=>v = .non ∧ Q (.ref x) H2) g.E) I2 (bT C2 r2 h2 fun y3 ρ3 S3 H3 azs zs st3 C3 r3 rzs h3=>?_)) fun ws s3 ⟨zs,H3,I3,rz,hz,hv,q3⟩=>⟨I3.kIn,?_⟩
 ·cases q:Nat.beq (axs.length + 1) np && Nat.beq azs.length ks.length with
  | false=>simp only [q] at h3; cases h3
  | true =>
   simp only [q] at h3
   simp only [Bool.and_eq_true] at q
   have e1:=Nat.eq_of_beq_eq_true q.1
   have e2:=Nat.eq_of_beq_eq_true q.2
   have l1:=aR rxs
   have l2:=aR rzs
   refine ⟨by omega,by omega,fun x dx hx' hdx ne=>?_⟩
   have hx2:(upd H3 dx (.own x)) x = none:=by rw [am (Ne.symm ne)]; exact hx'
   have st4:aD F y3 ρ3 H3 y3 ρ3 (upd H3 dx (.own x)):=aD.lay hdx
   have C4:=C3.lay (o:=.own x) hdx
   have st5:aD F y3 ρ3 (upd H3 dx (.own x)) y3 (ρ3 ++ [x]) (upd (upd H3 dx (.own x)) x (.ins (g.cl c) dx [])):=aD.add hx2
   have C5:=C4.add (o:=.ins c []) (ho:=.ins (g.cl c) dx []) hx2 ⟨dx,[],⟨hc,rfl,fun p hp=>(nomatch hp)⟩,.nil⟩
   have st6:=((st2.trans st3).trans st4).trans st5
   have rn:∀ {H':Hp},aY F y3 (ρ3 ++ [x]) H' (.ref S3.n) (.ref x):=fun {H'}=>⟨x,by rw [C3.n]; simp,rfl⟩
   have rall:aX F y3 (ρ3 ++ [x]) (upd (upd H3 dx (.own x)) x (.ins (g.cl c) dx [])) (.ref S3.n :: (axs ++ nq azs tpl)) (.ref x :: (vs ++ nr zs tpl)):=.cons rn (c3 (aX.mono (st3.trans (st4.trans st5)) rxs) (aX.mono (st4.trans st5) (kY rzs hk)))
   unfold bJ at h3
   cases q3:Nat.beq (AV.ref S3.n :: (axs ++ nq azs tpl)).length n with
   | false=>simp only [q3] at h3; cases h3
   | true =>
    simp only [q3] at h3
    refine ⟨F,y3,_,_,_,_,σa.ke,C5,rall,by rw [← Paired.length rall]; exact Nat.eq_of_beq_eq_true q3,h3,fun y7 ρ7 S7 H7 av v st7 C7 rv7 h7=>?_,r3.e.mono (st4.trans st5)⟩
    cases av with
    | non=>exact ⟨rv7,pp y7 ρ7 S7 H7 (.ref S3.n) _ (st6.trans st7) C7 (aY.mono (av:=.ref S3.n) st7 rn) h7⟩
    | _=>cases h7
 ·rw [hks]
  exact AM mk Fn hr hb hk hx I3 rv rz hv hz q3
end
abbrev xR:Pos:=⟨47,44,47,70⟩
abbrev ux:Str:=(("lot_of":Str) ++ ".<locals>.") ++ "<lambda>"
theorem AN {e:Expr} {ba:BE} {lp:Pos} {qu:Str} (hP:g.tP = lp) (hQ:g.tQ = qu) (h:PE X e (tN K g.tT lp qu (up g ba))):PE X e (up g (uk ba)):=by
 subst hP hQ
 exact Dm h
theorem Ft {x:Str} {c:Addr} {N ps:List Str} {k n:Nat} {b:BS} (d:Hh K mg x st c) (S:al N ps (ag st)) (hn:ps.length = n:=by decide) (hN:ps.length ≤ N.length:=by decide)
  (hb:∀ (kV doc pm:Value) (an:Option Addr) (cdv ct:Value) (us:List Value),us.length = ps.length → bindArgs (PySem.W.fnOf x x (bV st) (bd st) (ag st) .none kV doc pm an cdv ct) ⟨us,[]⟩ = pure (ps.zip us))
  (hbody:∀ (f:Addr) (A:Around) (outer:List Env) (s:Shared) (H:Hp) (E:XK),bQ k (A.deeper (envOfC x (ag st) s.heap.objs.size f (.ref c))) → iz (m8 fT P w K mg base N x (ag st) f (.ref c) A outer s H E).nox (bd st) (dh ⟨gy,E⟩ b)) :
  vX P w K mg base gy fT x (k + 1) n (cq N.length b):=by
 obtain ⟨f,oc,od,kV,doc,pm,an,ct,osl,lk,hcd,kp,hm⟩:=d
 refine ⟨f,_,ps,hn,FT lk hcd S (fun vs H Q E h=>?_) fun A outer s H vs Q E hr hsp=>?_,hm,kp,.all (hb kV doc pm an (.ref c) ct)⟩
 ·obtain ⟨_,_,_,_,_,_,_,_,_,hl,_⟩:=h
  rw [hl,hn]
 ·obtain ⟨t,h,q⟩:=xB (CX:=fT) (A:=A) (outer:=outer) (s:=s) hN hn hsp (hbody f A outer s H E hr)
  exact ⟨t,h.nox,q⟩
structure iA (K:PySem.W.Frag) (gy:Gy):Prop where
 cls:∀ c,c < 2 → qq K (gy.cl c)
 na_files:∀ c,c < 2 → ci K (gy.cl c) "files"
 na_fair:∀ c,c < 2 → ci K (gy.cl c) "fair"
 na_given:∀ c,c < 2 → ci K (gy.cl c) "given"
 na_leads:∀ c,c < 2 → ci K (gy.cl c) "leads"
 na_opened:∀ c,c < 2 → ci K (gy.cl c) "opened"
 na_held:∀ c,c < 2 → ci K (gy.cl c) "held"
 na_whole:∀ c,c < 2 → ci K (gy.cl c) "whole"
 na_waiting:∀ c,c < 2 → ci K (gy.cl c) "waiting"
 na_asleep:∀ c,c < 2 → ci K (gy.cl c) "asleep"
 na_outcomes:∀ c,c < 2 → ci K (gy.cl c) "outcomes"
 na_changes:∀ c,c < 2 → ci K (gy.cl c) "changes"
 na_tables:∀ c,c < 2 → ci K (gy.cl c) "tables"
 na_past:∀ c,c < 2 → ci K (gy.cl c) "past"
 na_future:∀ c,c < 2 → ci K (gy.cl c) "future"
theorem iA.c0 (G:iA K gy):qq K (gy.cl 0):=G.cls 0 (by decide)
theorem iA.c1 (G:iA K gy):qq K (gy.cl 1):=G.cls 1 (by decide)
def sI:List Nat:=[63,2]
def mL:List Nat:=[66,45]
def sJ:List Nat:=[61,78,15]
def il:List (AV × AV):=[(.str 63,.str 78),(.str 2,.str 61)]
def sK:List (AV × AV):=[(.str 13,.ext 0),(.str 6,.ext 1),(.str 25,.ext 2),(.str 20,.ext 3),(.str 32,.ext 4),(.str 26,.ext 5),(.str 42,.ext 6),(.str 71,.ext 7),(.str 17,.ext 8),(.str 43,.ext 9),(.str 72,.ext 10)]
structure Lb (P:Program) (w:World) (K:PySem.W.Frag) (mg:Str → Option Value) (gy:Gy):Prop where
 g_KINDS:Dw K mg "KINDS" sI
 g_HOLDERS:Dw K mg "HOLDERS" mL
 g_MODES:Dw K mg "MODES" sJ
 g_WRONG_MODES:Fm P w K mg gy "WRONG_MODES" il
 g_DEEDS:Fm P w K mg gy "DEEDS" sK
section
variable {h:Heap}
theorem aI {x:Str} {f:Addr} {oc:Value} {od an:Option Addr} {kV doc pm cdv ct:Value} (X:K.In h) (G:h.Ns mainGlobals mg)
  (a:PySem.W.nsIn K mainGlobals x = some (some (.ref f))) (l:K.lookup f = some ⟨oc,od,.func (PySem.W.fnOf x x (bV st) (bd st) (ag st) .none kV doc pm an cdv ct),osl⟩) (c:PySem.W.codeIn K cdv x = true) (k:PySem.W.keepIn K (.ref f) = true):cY K mg x st :=
 ⟨f,_,oE l c k,PySem.W.mg_of X G a⟩
theorem Fu {x:Str} {f cc:Addr} {oc:Value} {od an:Option Addr} {kV doc pm ct:Value} (X:K.In h) (G:h.Ns mainGlobals mg)
  (a:PySem.W.nsIn K mainGlobals x = some (some (.ref f))) (l:K.lookup f = some ⟨oc,od,.func (PySem.W.fnOf x x (bV st) (bd st) (ag st) .none kV doc pm an (.ref cc) ct),osl⟩) (c:PySem.W.codeIn K (.ref cc) x = true) (k:PySem.W.keepIn K (.ref f) = true):Hh K mg x st cc :=
 ⟨f,oc,od,kV,doc,pm,an,ct,osl,l,c,k,PySem.W.mg_of X G a⟩
theorem Fv {cc T:Addr} (hd:PySem.W.codeHdIn K cc T = true) (n4:mainGlobals ≠ T):Jm K mg cc T :=
 ⟨fun h' X'=>PySem.W.codeHd_of_K X' hd,n4⟩
def wn (K:PySem.W.Frag) (C:Addr) (m qual:Str) (st:Stmt):Prop:=∃ f fd,Fun K m qual st f fd ∧ vn K C m f
theorem dS {C f:Addr} {m qual:Str} {oc:Value} {od an:Option Addr} {kV doc pm cdv ct:Value} (b:PySem.W.findIn K (.ref C) m = some (some (.ref f)))
  (l:K.lookup f = some ⟨oc,od,.func (PySem.W.fnOf m qual (bV st) (bd st) (ag st) .none kV doc pm an cdv ct),osl⟩) (c:PySem.W.codeIn K cdv qual = true) (k:PySem.W.keepIn K (.ref f) = true) (fn:PySem.W.isFn K (.ref f) = true):wn K C m qual st :=
 ⟨f,_,oE l c k,b,fn,k⟩
def xS (K:PySem.W.Frag) (C:Addr) (m qual:Str) (st:Stmt) (es:Array DictEntry):Prop :=
 ∃ (f ka:Addr) (doc pm:Value) (an:Option Addr) (cdv ct kc:Value) (kd:Option Addr) (ep:Nat) (ks:Array (Option Value)),Fun K m qual st f (PySem.W.fnOf m qual (bV st) (bd st) (ag st) .none (.ref ka) doc pm an cdv ct) ∧ vn K C m f ∧ K.lookup ka = some ⟨kc,kd,.dict es ep,ks⟩
theorem zu {C f ka:Addr} {m qual:Str} {es:Array DictEntry} {oc kc:Value} {od an kd:Option Addr} {osl ks:Array (Option Value)} {doc pm cdv ct:Value} {ep:Nat} (b:PySem.W.findIn K (.ref C) m = some (some (.ref f)))
  (l:K.lookup f = some ⟨oc,od,.func (PySem.W.fnOf m qual (bV st) (bd st) (ag st) .none (.ref ka) doc pm an cdv ct),osl⟩) (c:PySem.W.codeIn K cdv qual = true) (k:PySem.W.keepIn K (.ref f) = true) (fn:PySem.W.isFn K (.ref f) = true) (n:K.lookup ka = some ⟨kc,kd,.dict es ep,ks⟩):xS K C m qual st es :=
 ⟨f,ka,doc,pm,an,cdv,ct,kc,kd,ep,ks,oE l c k,⟨b,fn,k⟩,n⟩
theorem sL {α:Type} {S:Setting} {a:Addr} {r:Option Value} {o:Obj} {k:Obj → Sem α} (h:K.lookup a = some o):PySem.W.peek K S (.load a r k) = PySem.W.peek K S (k o):=by
 rw [PySem.W.peek,h]
def JB (K:PySem.W.Frag) (C:Addr) (qual:Str) (st:Stmt):Prop:=∃ f fd,Fun K "__init__" qual st f fd ∧ Mk K C f
theorem DD {C f:Addr} {qual:Str} {oc:Value} {od an:Option Addr} {kV doc pm cdv ct:Value} (mk:PySem.W.makesIn K C = true) (b:PySem.W.findIn K (.ref C) "__init__" = some (some (.ref f)))
  (l:K.lookup f = some ⟨oc,od,.func (PySem.W.fnOf "__init__" qual (bV st) (bd st) (ag st) .none kV doc pm an cdv ct),osl⟩) (c:PySem.W.codeIn K cdv qual = true) (k:PySem.W.keepIn K (.ref f) = true) (fn:PySem.W.isFn K (.ref f) = true) (kc:PySem.W.keepIn K (.ref C) = true):JB K C qual st :=
 ⟨f,_,oE l c k,mk,b,fn,kc⟩
theorem uy {nm:Str} {a:Addr} {oc:Value} {od:Option Addr} {its:Array Value} {n:Nat} {tab:List Nat} (X:K.In h) (G:h.Ns mainGlobals mg) (e:PySem.W.nsIn K mainGlobals nm = some (some (.ref a))) (l:K.lookup a = some ⟨oc,od,.seq its n,osl⟩) (hc:oc = .type "tuple") (hs:its.size ≤ sizeLine)
  (p:Paired (fun i u=>∃ x t,bf[i]? = some x ∧ u = .str x t) tab its.toList):Dw K mg nm tab:=⟨a,_,its,n,PySem.W.mg_of X G e,l,hc,rfl,hs,p⟩
theorem sM {α β γ:Type} {R:α → γ → Prop} {f:β → γ}:∀ {xs:List α} {ys:List β},Paired (fun p q=>R p (f q)) xs ys → Paired R xs (ys.map f)
 | _,_,.nil=>.nil
 | _,_,.cons h t=>.cons h (sM t)
abbrev HS (w:World) (x:Str) (t:Tok) (v:Value):DictEntry:=⟨IC w (.inr x),.str x t,v⟩
theorem DE {es:List (Str × Tok × Value)}:KeysOf (aU P w) ((es.map fun e=>HS w e.1 e.2.1 e.2.2).toArray):=by
 intro e he
 simp only [List.mem_toArray,List.mem_map] at he
 obtain ⟨⟨x,t,v⟩,_,rfl⟩:=he
 exact ⟨.inr x,iE P w x t,rfl⟩
theorem sN {P:Program} {w:World}:∀ es:List (Str × Tok × Value),Pairs (aU P w) (es.map fun e=>HS w e.1 e.2.1 e.2.2) (es.map fun e=>((.inr e.1:bj),e.2.2))
 | []=>.nil
 | (x,t,v) :: r=>.cons (iE P w x t) rfl (sN r)
theorem zw {nm:Str} {a:Addr} {es:List (Str × Tok × Value)} {n:Nat} {tab:List (AV × AV)} {o:Obj} (X:K.In h) (G:h.Ns mainGlobals mg) (e:PySem.W.nsIn K mainGlobals nm = some (some (.ref a))) (l:K.lookup a = some o)
  (eo:o = ⟨.type "dict",none,.dict ((es.map fun e=>HS w e.1 e.2.1 e.2.2).toArray) n,#[]⟩) (nd:(es.map (·.1)).Nodup)
  (p:Paired (fun (p:AV × AV) (q:Str × Tok × Value)=>gG p.1 (.inr q.1) ∧ Fl gy p.2 q.2.2) tab es):Fm P w K mg gy nm tab:=by
 refine ⟨a,es.map fun e=>((.inr e.1:bj),e.2.2),PySem.W.mg_of X G e,fun h' X'=>⟨o,_,n,X' _ _ l,?_,by rw [eo],DE,by simpa using sN es,?_⟩,?_⟩
 ·rw [eo]; exact ⟨rfl,rfl,rfl⟩
 ·rw [List.map_map]
  have:((fun e:bj × Value=>e.1) ∘ fun e:Str × Tok × Value=>((.inr e.1:bj),e.2.2)) = fun e=>(.inr e.1:bj):=rfl
  rw [this]
  have h2:(es.map fun e=>(.inr e.1:bj)) = (es.map (·.1)).map Sum.inr:=by rw [List.map_map]; rfl
  rw [h2]
  exact List.pairwise_map.mpr (List.Pairwise.imp (fun h w=>h (Sum.inr.inj w)) nd)
 ·exact sM p
end
abbrev uz (ns:List (Str × NameKind)):Scope:={ kind:=.function,names:=(".0",.local) :: ns,isGenerator:=false,isCoroutine:=false,more:=[] }
@[reducible] def bI (n:Int):BE:=bC (.int false n n)
section
theorem b0 {F:List Value → Prop} (h:F []):∀ us,us.length = 0 → F us:=fun us e=>by
 cases us with
 | nil=>exact h
 | cons=>cases e
theorem bs {n:Nat} {F:List Value → Prop} (h:∀ a us,us.length = n → F (a :: us)):∀ us,us.length = n + 1 → F us:=fun us e=>by
 cases us with
 | nil=>cases e
 | cons a us=>exact h a us (Nat.succ.inj e)
theorem b1 {F:List Value → Prop} (h:∀ a,F [a]):∀ us,us.length = 1 → F us:=bs fun a=>b0 (h a)
theorem b2 {F:List Value → Prop} (h:∀ a b,F [a,b]):∀ us,us.length = 2 → F us:=bs fun a=>b1 (h a)
theorem b3 {F:List Value → Prop} (h:∀ a b c,F [a,b,c]):∀ us,us.length = 3 → F us:=bs fun a=>b2 (h a)
theorem b4 {F:List Value → Prop} (h:∀ a b c d,F [a,b,c,d]):∀ us,us.length = 4 → F us:=bs fun a=>b3 (h a)
theorem b5 {F:List Value → Prop} (h:∀ a b c d e,F [a,b,c,d,e]):∀ us,us.length = 5 → F us:=bs fun a=>b4 (h a)
theorem b6 {F:List Value → Prop} (h:∀ a b c d e f,F [a,b,c,d,e,f]):∀ us,us.length = 6 → F us:=bs fun a=>b5 (h a)
theorem b7 {F:List Value → Prop} (h:∀ a b c d e f g,F [a,b,c,d,e,f,g]):∀ us,us.length = 7 → F us:=bs fun a=>b6 (h a)
theorem cE {N ps:List Str} {sc:Scope} (S:al N ps sc:=by exact ⟨rfl,rfl,rfl,by decide +kernel,rfl,by decide +kernel,by decide +kernel⟩):al N ps sc:=S
theorem uA {sc lc:Scope} {N Nc:List Str} (S:aW sc N lc Nc ix:=by exact ⟨rfl,by decide +kernel,by decide +kernel,by decide +kernel,by decide +kernel,rfl,by decide +kernel⟩):aW sc N lc Nc ix:=S
abbrev IB (P:Program) (w:World) (K:PySem.W.Frag) (mg:Str → Option Value) (base:Heap) (gy:Gy) (N:List Str) (x:Str) (st:Stmt) (k:Nat) (b:BS) (f:Addr):Prop:=∀ {cdv:Value} {A:Around} {outer:List Env} {s:Shared} {H:Hp} {E:XK},bQ k (A.deeper (envOfC x (ag st) s.heap.objs.size f cdv)) → (A.deeper (envOfC x (ag st) s.heap.objs.size f cdv)).units + 1 < cLine →
 iz (m8 fT P w K mg base N x (ag st) f cdv A outer s H E).nox (bd st) (dh ⟨gy,E⟩ b)
abbrev KI (x q:Str) (st:Stmt) (ps:List Str):Prop:=∀ us:List Value,us.length = ps.length → ∀ {kV doc pm:Value} {an:Option Addr} {cdv ct:Value},bindArgs (PySem.W.fnOf x q (bV st) (bd st) (ag st) .none kV doc pm an cdv ct) ⟨us,[]⟩ = pure (ps.zip us)
abbrev HU (x q:Str) (st:Stmt) (ps ks:List Str) (np:Nat) (tpl:List t7):Prop:=∀ us:List Value,us.length = np → ∀ ws:List Value,ws.length = ks.length → ∀ {kV doc pm:Value} {an:Option Addr} {cdv ct:Value},bindArgs (PySem.W.fnOf x q (bV st) (bd st) (ag st) .none kV doc pm an cdv ct) ⟨us,ks.zip ws⟩ = pure (ps.zip (us ++ v1 ws tpl))
theorem bx {x:Str} {N ps:List Str} {k n:Nat} {b:BS} (d:cY K mg x st) (S:al N ps (ag st)) (hb:KI x x st ps) (hbody:∀ {f},IB P w K mg base gy N x st k b f) (hn:ps.length = n:=by decide) (hN:ps.length ≤ N.length:=by decide) :
  vX P w K mg base gy fT x (k + 1) n (cq N.length b):=HA d S hn hN (fun _ _ _ _ _ _ us h=>hb us h) fun f cdv A outer s H E hr=>hbody hr (da hr)
theorem AQ {x q:Str} {N ps:List Str} {k n:Nat} {b:BS} {fa:Addr} (F:Fun K x q st fa fd) (S:al N ps (ag st)) (hbody:IB P w K mg base gy N q st k b fa) (hn:ps.length = n:=by decide) (hN:ps.length ≤ N.length:=by decide) :
  db P w K mg base fT (k + 1) fa fd ps (r8 gy n (cq N.length b)):=HE F S hn hN fun cdv A outer s H E hr=>hbody hr (da hr)
theorem nv {c:Nat} {x q:Str} {N ps:List Str} {k n:Nat} {b:BS} (D:wn K (gy.cl c) x q st) (S:al N ps (ag st)) (hb:KI x q st ps) (hbody:∀ {f},IB P w K mg base gy N q st k b f) (hn:ps.length = n:=by decide) (hN:ps.length ≤ N.length:=by decide) :
  CG P w K mg base gy fT c x (k + 1) n [] (cq N.length b):=by
 obtain ⟨f,fd,F,me⟩:=D
 exact ⟨f,fd,ps,[],[],hn,AQ F S hbody hn hN,me,F.binds fun _ _ _ _ _ _ us h=>hb us h,.nil,fun _ _ _ _=>.nil⟩
theorem _root_.L2.Fun.kwbinds {x qual:Str} {f:Addr} {ps ks:List Str} {np:Nat} {tpl:List t7} (F:Fun K x qual st f fd) (h:HU x qual st ps ks np tpl):kZ K fd ps ks np tpl:=by
 obtain ⟨oc,od,kV,doc,pm,an,cdv,ct,osl,rfl,lk,hcd⟩:=F.ex
 exact fun s us ws _ hu hw=>.of_eq (h us hu ws hw)
theorem Gn {c:Nat} {x q:Str} {N ps ks:List Str} {np:Nat} {tpl:List t7} {k n:Nat} {b:BS} (D:wn K (gy.cl c) x q st) (S:al N ps (ag st)) (hb:HU x q st ps ks np tpl) (ht:qF tpl) (hbody:∀ {f},IB P w K mg base gy N q st k b f) (hn:ps.length = n:=by decide) (hN:ps.length ≤ N.length:=by decide) :
  Ak P w K mg base gy fT c x (k + 1) n np ks tpl (cq N.length b):=by
 obtain ⟨f,fd,F,me⟩:=D
 exact ⟨f,fd,ps,hn,AQ F S hbody hn hN,me,F.kwbinds hb,ht⟩
theorem KJ {c:Nat} {x q:Str} {N ps:List Str} {k n:Nat} {b:BS} (D:JB K (gy.cl c) q st) (hm:mg x = some (.ref (gy.cl c))) (S:al N ps (ag st)) (hb:KI "__init__" q st ps) (hbody:∀ {f},IB P w K mg base gy N q st k b f) (hn:ps.length = n:=by decide) (hN:ps.length ≤ N.length:=by decide) :
  KB P w K mg base gy fT c x (k + 1) n (cq N.length b):=by
 obtain ⟨f,fd,F,mk⟩:=D
 exact ⟨f,fd,ps,hn,AQ F S hbody hn hN,mk,hm,F.binds fun _ _ _ _ _ _ us h=>hb us h⟩
theorem JC {c:Nat} {x q:Str} {N ps ks:List Str} {np:Nat} {tpl:List t7} {k n:Nat} {b:BS} (D:JB K (gy.cl c) q st) (hm:mg x = some (.ref (gy.cl c))) (S:al N ps (ag st)) (hb:HU "__init__" q st ps ks np tpl) (ht:qF tpl) (hbody:∀ {f},IB P w K mg base gy N q st k b f) (hn:ps.length = n:=by decide) (hN:ps.length ≤ N.length:=by decide) :
  KH P w K mg base gy fT c x (k + 1) n np ks tpl (cq N.length b):=by
 obtain ⟨f,fd,F,mk⟩:=D
 exact ⟨f,fd,ps,hn,AQ F S hbody hn hN,mk,hm,F.kwbinds hb,ht⟩
theorem l4 {x:Str} {k k' n:Nat} {f:BF} {a:Addr} (c:vX P w K mg base gy fT x k n f) (hm:mg x = some (.ref a)) (hk:k ≤ k'):∃ fd ps,ps.length = n ∧ db P w K mg base fT k' a fd ps (r8 gy n f) ∧ PySem.W.keepIn K (.ref a) = true ∧ dH K fd ps []:=by
 obtain ⟨fa,fd,ps,hn,F,hm',kp,hb⟩:=c
 have e:=hm.symm.trans hm'
 cases e
 exact ⟨fd,ps,hn,F.mono hk,kp,hb⟩
end
section
variable {a b c e o:Expr} {ba bb bc be:BE} {br:BA} {pos p:Pos} {x m:Str} {k n k':Nat} {f:BF}
theorem uv (i:Nat) (hN:X.N[i]? = some x:=by with_unfolding_all rfl) (hv:IE X.env.scope x:=by with_unfolding_all (first | exact Or.inl rfl | exact Or.inr (Or.inl rfl) | exact Or.inr (Or.inr rfl))) (hd:(x == ("__debug__":Str)) = false:=by decide) (hcd:(x == ("__classdict__":Str)) = false:=by decide):PE X (.Name x pos) (up g (ad i)):=Hj i (pv i hN hv hd hcd)
theorem uc (c:vX X.prog X.w X.K X.mg X.base g.toGy fT x k n f) (hr:bQ k' X.A) (ha:PA X (e :: es) (jM g br)) (hk:k ≤ k':=by decide) (hg:Gl X x:=by with_unfolding_all rfl) (hdb:(x == ("__debug__":Str)) = false:=by decide)
  (he:starEach (e :: es) X.env = (false,eval e X.env) :: starEach es X.env:=by with_unfolding_all rfl) (hpl:(backTo pos (starEach es X.env)).any (·.1) = false:=by with_unfolding_all rfl):PE X (.Call (.Name x p) (e :: es) [] pos) (up g (aB (bJ n f) br)):=HB c (hr.mono hk) fb ha hg hdb he hpl
theorem um {pl:Sem Bool} {apos:Pos} {c:Nat} {dA:List AV} (M:CG X.prog X.w X.K X.mg X.base g.toGy fT c m k n dA f) (hc:qq X.K (g.cl c)) (hr:bQ k' X.A) (ho:PE X o (up g ba)) (ha:PA X (e :: es) (jM g br)) (hk:k ≤ k':=by decide) (hm:∀ i ∈ lR,bf[i]? ≠ some m:=by decide +kernel)
  (hst:starEach (e :: es) X.env = (false,eval e X.env) :: starEach es X.env:=by with_unfolding_all rfl) (hpl:(backTo pos (starEach es X.env)).any (·.1) = false:=by with_unfolding_all rfl)
  (ht:eval (.Call (.Attribute o m apos) (e :: es) [] pos) X.env = (do
   let ov ← eval o X.env
   standAt apos.atName
   let (f,first) ← holding [ov] (getMethod ov m pl)
   callWith pos f first (backTo pos (starEach (e :: es) X.env)) (backToKw pos (keywordEach [] X.env))):=by with_unfolding_all rfl) :
  PE X (.Call (.Attribute o m apos) (e :: es) [] pos) (up g (bh c n dA f ba br)):=E4 M hc hm (hr.mono hk) fb ho ha hst hpl ht
theorem ug (i:Nat) (hN:X.N.Nodup) (hi:X.N[i]? = some x:=by with_unfolding_all rfl) (hx:L2.eD X.env.scope x:=by with_unfolding_all (first | exact Or.inl rfl | exact Or.inr rfl)) (hf:X.fn x = true ∨ X.env.scope.names.lookup x = some .local:=by with_unfolding_all (first | exact .inl rfl | exact .inr rfl | assumption)):PG X (.Name x pos) (oP g [i] (ah i)):=EQ i (Eh hN hi hx hf)
theorem ua {pos':Pos} (i:Nat) (hN:X.N.Nodup) (he:PE X e (up g be)) (hi:X.N[i]? = some x:=by with_unfolding_all rfl) (hx:L2.eD X.env.scope x:=by with_unfolding_all (first | exact Or.inl rfl | exact Or.inr rfl)) (hs:swapsWith e (some (.Name x pos')) pos.line X.env = pure false:=by with_unfolding_all rfl) (hf:X.fn x = true ∨ X.env.scope.names.lookup x = some .local:=by with_unfolding_all (first | exact .inl rfl | exact .inr rfl | assumption)) :
  PS X (.Assign [.Name x pos'] e pos) (dh g (aZ be (ah i))):=Hn i (lG hN hi hx he hs hf)
theorem DF (G:iA X.K g.toGy) (he:PE X e (up g ba)) (hb:attributeBase e "files" X.env (eval e X.env) = eval e X.env:=by with_unfolding_all rfl):PE X (.Attribute e "files" pos) (up g (aS 31 ba)):=ef 31 (by decide +kernel) G.cls G.na_files he hb
theorem Fw (G:iA X.K g.toGy) (he:PE X e (up g ba)) (hb:attributeBase e "fair" X.env (eval e X.env) = eval e X.env:=by with_unfolding_all rfl):PE X (.Attribute e "fair" pos) (up g (aS 29 ba)):=ef 29 (by decide +kernel) G.cls G.na_fair he hb
theorem o9 (G:iA X.K g.toGy) (he:PE X e (up g ba)) (hb:attributeBase e "given" X.env (eval e X.env) = eval e X.env:=by with_unfolding_all rfl):PE X (.Attribute e "given" pos) (up g (aS 35 ba)):=ef 35 (by decide +kernel) G.cls G.na_given he hb
theorem c4 (G:iA X.K g.toGy) (he:PE X e (up g ba)) (hb:attributeBase e "leads" X.env (eval e X.env) = eval e X.env:=by with_unfolding_all rfl):PE X (.Attribute e "leads" pos) (up g (aS 41 ba)):=ef 41 (by decide +kernel) G.cls G.na_leads he hb
theorem cC (G:iA X.K g.toGy) (he:PE X e (up g ba)) (hb:attributeBase e "opened" X.env (eval e X.env) = eval e X.env:=by with_unfolding_all rfl):PE X (.Attribute e "opened" pos) (up g (aS 54 ba)):=ef 54 (by decide +kernel) G.cls G.na_opened he hb
theorem f8 (G:iA X.K g.toGy) (he:PE X e (up g ba)) (hb:attributeBase e "held" X.env (eval e X.env) = eval e X.env:=by with_unfolding_all rfl):PE X (.Attribute e "held" pos) (up g (aS 38 ba)):=ef 38 (by decide +kernel) G.cls G.na_held he hb
theorem DG (G:iA X.K g.toGy) (he:PE X e (up g ba)) (hb:attributeBase e "whole" X.env (eval e X.env) = eval e X.env:=by with_unfolding_all rfl):PE X (.Attribute e "whole" pos) (up g (aS 75 ba)):=ef 75 (by decide +kernel) G.cls G.na_whole he hb
theorem bi (G:iA X.K g.toGy) (he:PE X e (up g ba)) (hb:attributeBase e "waiting" X.env (eval e X.env) = eval e X.env:=by with_unfolding_all rfl):PE X (.Attribute e "waiting" pos) (up g (aS 73 ba)):=ef 73 (by decide +kernel) G.cls G.na_waiting he hb
theorem dB (G:iA X.K g.toGy) (he:PE X e (up g ba)) (hb:attributeBase e "asleep" X.env (eval e X.env) = eval e X.env:=by with_unfolding_all rfl):PE X (.Attribute e "asleep" pos) (up g (aS 5 ba)):=ef 5 (by decide +kernel) G.cls G.na_asleep he hb
theorem iU (G:iA X.K g.toGy) (he:PE X e (up g ba)) (hb:attributeBase e "outcomes" X.env (eval e X.env) = eval e X.env:=by with_unfolding_all rfl):PE X (.Attribute e "outcomes" pos) (up g (aS 56 ba)):=ef 56 (by decide +kernel) G.cls G.na_outcomes he hb
theorem jV (G:iA X.K g.toGy) (he:PE X e (up g ba)) (hb:attributeBase e "changes" X.env (eval e X.env) = eval e X.env:=by with_unfolding_all rfl):PE X (.Attribute e "changes" pos) (up g (aS 19 ba)):=ef 19 (by decide +kernel) G.cls G.na_changes he hb
theorem cr (G:iA X.K g.toGy) (he:PE X e (up g ba)) (hb:attributeBase e "tables" X.env (eval e X.env) = eval e X.env:=by with_unfolding_all rfl):PE X (.Attribute e "tables" pos) (up g (aS 65 ba)):=ef 65 (by decide +kernel) G.cls G.na_tables he hb
theorem Fy (G:iA X.K g.toGy) (he:PE X e (up g ba)) (hb:attributeBase e "past" X.env (eval e X.env) = eval e X.env:=by with_unfolding_all rfl):PE X (.Attribute e "past" pos) (up g (aS 57 ba)):=ef 57 (by decide +kernel) G.cls G.na_past he hb
end
end RB
namespace RB
open PySem L2
def pf (t r:Addr) (H H':Hp):Prop:=∀ b o,H b = some o → b ≠ t → b ≠ r → H' b = some o
def cx (c:Int) (r:Addr):List (bj × V):=[(Sum.inr "count",V.int c),(Sum.inr "rests",V.ref r)]
theorem Lc:¬ (("rests":Str) = "count"):=by decide +kernel
theorem K5:¬ (("count":Str) = "rests"):=by decide +kernel
theorem je (c:Int) (r:Addr):cX (cx c r) (Sum.inr "count") = some (.int c):=by simp [cx,cX]
theorem jf (c:Int) (r:Addr):cX (cx c r) (Sum.inr "rests") = some (.ref r):=by simp [cx,cX,K5]
theorem AR (c x:Int) (r:Addr):cR (cx c r) (Sum.inr "count") (.int x) = cx x r:=by simp [cx,cR,Lc]
structure mM (kvs:List (bj × V)):Prop where
 nd:(kvs.map (·.1)).Nodup
 kv:∀ p ∈ kvs,∃ i j:Int,p = (Sum.inl i,V.int j) ∧ 0 ≤ i ∧ i < 64
structure nw (H:Hp) (t r:Addr):Prop where
 ne:t ≠ r
 tw:∃ c,H t = some (.dK (cx c r))
 rs:∃ kvs,H r = some (.dK kvs) ∧ mM kvs
theorem nw.notL {t r:Addr} (T:nw H t r) {a:Addr} {o:HO} (h:H a = some o) (n:∀ kvs,o ≠ .dK kvs):a ≠ t ∧ a ≠ r:=by
 obtain ⟨_,⟨c,h1⟩,kvs,h2,_⟩:=T
 exact ⟨fun e=>by subst e; rw [h1] at h; cases h; exact n _ rfl,fun e=>by subst e; rw [h2] at h; cases h; exact n _ rfl⟩
theorem pf.sq {H H':Hp} {t r a:Addr} (e:pf t r H H') (T:nw H t r) (h:fu K H a xs):fu K H' a xs:=by
 rcases h with (h | ⟨o,h⟩) | h
 ·exact .inl (.inl (e _ _ h (T.notL h fun _ z=>nomatch z).1 (T.notL h fun _ z=>nomatch z).2))
 ·exact .inl (.inr ⟨o,e _ _ h (T.notL h fun _ z=>nomatch z).1 (T.notL h fun _ z=>nomatch z).2⟩)
 ·exact .inr h
theorem zx:∀ (n:Nat) (l:List Nat),l.Nodup → (∀ x ∈ l,x < n) → l.length ≤ n
 | 0,l,_,h=>by
  cases l with
  | nil=>simp
  | cons x l=>exact absurd (h x List.mem_cons_self) (Nat.not_lt_zero _)
 | n + 1,l,nd,h=>by
  have h1:(l.erase n).Nodup:=nd.erase n
  have h2:=zx n (l.erase n) h1 fun x hx=>by
   have:=(List.Nodup.mem_erase_iff nd).mp hx
   have:=h x this.2
   omega
  have h3:=List.length_erase (a:=n) (l:=l)
  split at h3 <;> omega
def HV:bj × V → Nat
 | (.inl i,_)=>i.toNat
 | _=>0
theorem mM.len {kvs:List (bj × V)} (R:mM kvs):kvs.length ≤ 64:=by
 have h:=zx 64 (kvs.map HV) ?_ ?_
 ·simpa using h
 ·have nd:=R.nd
  rw [List.Nodup,List.pairwise_map] at nd ⊢
  refine nd.imp_of_mem fun {p q} hp hq ne e=>?_
  obtain ⟨i,j,rfl,h1,h2⟩:=R.kv p hp
  obtain ⟨i',j',rfl,h3,h4⟩:=R.kv q hq
  simp [HV] at e
  have:i = i':=by omega
  subst this
  exact ne rfl
 ·intro x hx
  obtain ⟨p,hp,rfl⟩:=List.mem_map.mp hx
  obtain ⟨i,j,rfl,h1,h2⟩:=R.kv p hp
  simp [HV]
  omega
theorem mM.val {kvs:List (bj × V)} (R:mM kvs) {k:bj} {v:V} (h:cX kvs k = some v):∃ j:Int,v = .int j:=by
 unfold cX at h
 rw [Option.map_eq_some_iff] at h
 obtain ⟨p,hp,rfl⟩:=h
 obtain ⟨i,j,rfl,_⟩:=R.kv p (List.mem_of_find?_eq_some hp)
 exact ⟨j,rfl⟩
theorem mM.put {kvs:List (bj × V)} (R:mM kvs) {i j:Int} (h1:0 ≤ i) (h2:i < 64):mM (cR kvs (.inl i) (.int j)):=by
 unfold cR
 split
 ·refine ⟨?_,fun p hp=>?_⟩
  ·have e:(kvs.map fun kv=>if kv.1 = (Sum.inl i:bj) then (kv.1,V.int j) else kv).map (·.1) = kvs.map (·.1):=by
    rw [List.map_map]
    apply List.map_congr_left
    intro p _
    simp only [Function.comp_apply]
    split <;> rfl
   rw [e]; exact R.nd
  ·obtain ⟨q,hq,rfl⟩:=List.mem_map.mp hp
   split
   ·obtain ⟨a,b,rfl,h3,h4⟩:=R.kv q hq
    exact ⟨a,j,rfl,h3,h4⟩
   ·exact R.kv q hq
 ·rename_i hno
  refine ⟨?_,fun p hp=>?_⟩
  ·rw [List.map_append]
   refine yG R.nd fun m=>hno ?_
   obtain ⟨q,hq,e⟩:=List.mem_map.mp m
   exact List.any_eq_true.mpr ⟨q,hq,decide_eq_true e⟩
  ·rcases List.mem_append.mp hp with hp | hp
   ·exact R.kv p hp
   ·simp at hp
    exact ⟨i,j,hp,h1,h2⟩
section
def uB (K:PySem.W.Frag):Sp:=fun vs H Q _=>∃ a ns t r m,vs = [.ref a,.ref t,.int m] ∧ fu K H a (List.map V.int ns) ∧ ns.length ≤ 63 ∧ nw H t r ∧ 0 < m ∧ m ≤ 1000000 ∧
 ∀ x H',0 ≤ x → x < m → nw H' t r → pf t r H H' → Q (.int x) H'
theorem cf (x m:Int) (h:0 < m):0 ≤ x % m ∧ x % m < m:=⟨Int.emod_nonneg _ (by omega),Int.emod_lt_of_pos _ h⟩
theorem eQ:al ["_law_script","_law_town","_law_many","_law_at","_law_rest","_law_number"] ["_law_script","_law_town","_law_many"] (ag (aF 103)):=⟨rfl,rfl,rfl,by decide +kernel,rfl,by decide +kernel,by decide +kernel⟩
theorem Fz (d:cY K mg "_law_draw" (aF 103)) (M:Mods mg):Ha P w K mg base "_law_draw" 1 ["_law_script","_law_town","_law_many"] (uB K):=by
 refine d.ok eQ (fun vs H Q E h=>?_) (fun _ _ _ _ _ _ us hl=>match us,hl with | [_,_,_],_=>rfl) (fun f cdv A outer s H vs Q E hr h=>?_)
 ·obtain ⟨a,ns,t,r,m,rfl,_⟩:=h
  rfl
 ·obtain ⟨a,ns,t,r,m,rfl,hS,hns,T,hm,hm2,k⟩:=h
  have hu:=da hr
  apply Exists.intro; apply And.intro
  ·(conv=>arg 2; whnf)
   with_reducible exact (dE (vC hu (pv 1) gT (eL ck (iM hu (pv 1) gT (by with_unfolding_all exact (fun _ _=>rfl))) cT) (by with_unfolding_all rfl))
   (dE (lG (i:=3) eQ.nd (by with_unfolding_all rfl) (by with_unfolding_all exact (Or.inl rfl)) (oi (vk (pv 0) (by with_unfolding_all exact (fun _=>rfl))) (eL lI (iM hu (pv 1) gT (by with_unfolding_all exact (fun _ _=>rfl))) (kj kn (by with_unfolding_all rfl) M.len PySem.boot_len (fW (pv 0) jJ))) cT))
   (dE (lG (i:=4) eQ.nd (by with_unfolding_all rfl) (by with_unfolding_all exact (Or.inl rfl)) (z5 hu (iM hu (pv 1) gT (by with_unfolding_all exact (fun _ _=>rfl))) (pv 3) (oi (vk (pv 0) (by with_unfolding_all exact (fun _=>rfl))) (FV yB (pv 0) (pv 3) (by with_unfolding_all exact (fun _ _=>rfl))) cT) (by with_unfolding_all exact ⟨rfl,rfl,rfl,rfl⟩)))
   (dE (FN (tq FQ (pv 4) (eL Bm cT cT) (by with_unfolding_all exact (jH _))) (dE (vC hu (iM hu (pv 1) gT (by with_unfolding_all exact (fun _ _=>rfl))) (pv 3) (eL tm (pv 4) (pv 2)) (by with_unfolding_all rfl))
   (nJ (tj (eL lI (pv 4) (pv 2))))) yi)
   (dE (lG (i:=5) eQ.nd (by with_unfolding_all rfl) (by with_unfolding_all exact (Or.inl rfl)) (eL lI (eL ck (pv 4) (eL Bl cT (iM hu (pv 1) gT (by with_unfolding_all exact (fun _ _=>rfl))))) cT))
   (dE (lG (i:=5) eQ.nd (by with_unfolding_all rfl) (by with_unfolding_all exact (Or.inl rfl)) (eL lI (eL Bm (pv 5) cT) cT))
   (nJ (tj (eL lI (eL tm (eL lI (eL ck (eL Bl (eL tm (pv 5) cT) cT) (pv 5)) cT) cT) (pv 2))))))))))
  have e0:L2.ii ["_law_script","_law_town","_law_many","_law_at","_law_rest","_law_number"] [.ref a,.ref t,.int m] = [some (.ref a),some (.ref t),some (.int m),none,none,none]:=rfl
  rw [e0]
  obtain ⟨ne,⟨c,ht⟩,kvs,hk,R⟩:=id T
  have hl2:(cx c r).length < sizeLine:=ce (by simp [cx])
  -- town["count"] = town["count"] + 1
  simp only [tM,yK,z7,F0,List.getElem?_cons_succ,List.getElem?_cons_zero,Option.join_some,bW,oM,B6,yL,vD,List.set_cons_succ,List.set_cons_zero,EJ,z6,xk,B1,nO,B3,mF,xl,Hd,Hg,B5,yM,kN,cK ht,je,oK,AR]
  refine ⟨hl2,?_⟩
  have s1:pf t r H (upd H t (.dK (cx (c + 1) r))):=fun b o h n1 n2=>by
   rw [am n1]; exact h
  generalize hH1:upd H t (.dK (cx (c + 1) r)) = H1 at s1
  have ht1:H1 t = some (.dK (cx (c + 1) r)):=by rw [← hH1]; exact aC
  have hk1:H1 r = some (.dK kvs):=by rw [← hH1,am ne.symm]; exact hk
  have hS1:=s1.sq T hS
  have T1:nw H1 t r:=⟨ne,⟨_,ht1⟩,kvs,hk1,R⟩
  have rest_int:∀ (i z:Int),∃ j:Int,(cX kvs (Sum.inl i)).getD (V.int z) = V.int j:=fun i z=>by
   cases e:cX kvs (Sum.inl i:bj) with
   | none=>exact ⟨z,rfl⟩
   | some v=>obtain ⟨j,rfl⟩:=R.val e; exact ⟨j,rfl⟩
  have hl64:kvs.length < sizeLine:=ce (Nat.le_trans R.len (by decide))
  have fin2:∀ (i j:Int),0 ≤ i → i < 64 → nw (upd H1 r (.dK (cR kvs (.inl i) (.int j)))) t r ∧ pf t r H (upd H1 r (.dK (cR kvs (.inl i) (.int j)))):=fun i j h0 h1=>by
   refine ⟨⟨ne,⟨_,by rw [am ne]; exact ht1⟩,_,aC,R.put h0 h1⟩,fun b o h n1 n2=>?_⟩
   rw [am n2]
   exact s1 b o h n1 n2
  refine ⟨!(ns.map V.int).isEmpty,.inl ⟨_,hS1,rfl⟩,?_⟩
  cases hns0:ns with
  | nil =>
   rw [hns0] at hS1
   simp only [List.map_nil,List.isEmpty_nil,Bool.not_true,Bool.false_eq_true,cK ht1,bW,jf,cK hk1,if_false]
   refine ⟨!(([]:List Int).map V.int).isEmpty,.inl ⟨_,hS1,rfl⟩,?_⟩
   simp only [List.map_nil,List.isEmpty_nil,Bool.not_true,Bool.false_eq_true,if_false]
   obtain ⟨rest,hrest⟩:=rest_int 0 0
   rw [hrest]
   have h0:(0:Int) ≤ 0:=by decide
   have h1:(0:Int) < 64:=by decide
   simp only [mF,oK,B2]
   refine ⟨⟨by decide,by decide,by decide⟩,?_⟩
   by_cases hb:(10:Int) ^ Int.toNat 18 ≤ rest
   ·simp only [hb,decide_true,cK ht1,bW,jf,oM,cK hk1,kN,nO,xk,tM,List.getElem?_cons_succ,List.getElem?_cons_zero,Option.join_some,mF,if_true]
    exact ⟨⟨hm,by omega⟩,hl64,hm,k _ _ (cf _ _ hm).1 (cf _ _ hm).2 (fin2 _ _ h0 h1).1 (fin2 _ _ h0 h1).2⟩
   ·simp only [hb,decide_false,Bool.false_eq_true,cK ht1,bW,je,mF,oK,if_false]
    refine ⟨.inl ⟨by decide,by decide⟩,by decide,?_⟩
    generalize hx:(rest + 104729 * (c + 1)) % 4294967291 = x
    have x0:0 ≤ x ∧ x < 4294967291:=by rw [← hx]; exact cf _ _ (by decide)
    refine ⟨⟨by decide,by decide,by omega⟩,by decide,?_⟩
    generalize hy:x ^ Int.toNat 5 % 4294967279 = y
    have y0:0 ≤ y ∧ y < 4294967279:=by rw [← hy]; exact cf _ _ (by decide)
    refine ⟨⟨by decide,by decide⟩,.inr ⟨by decide,by decide⟩,by decide,⟨by decide,by decide⟩,hm,k _ _ (cf _ _ hm).1 (cf _ _ hm).2 T1 s1⟩
  | cons n0 ns' =>
   rw [hns0] at hS1 hns
   simp only [List.map_cons,List.isEmpty_cons,Bool.not_false,cK ht1,bW,je,mF,kN,if_true]
   refine ⟨a,_,rfl,.inl hS1,?_⟩
   have hlen:((List.map V.int (n0 :: ns')).length:Int) = ((n0 :: ns').length:Int):=by simp
   rw [hlen]
   have hlp:(0:Int) < ((n0 :: ns').length:Int):=by simp only [List.length_cons]; omega
   refine ⟨hlp,?_⟩
   have hat:=cf (c + 1) _ hlp
   generalize hatx:(c + 1) % ((n0 :: ns').length:Int) = at' at hat
   have h0:0 ≤ at':=hat.1
   have h1:at' < 64:=by have:=hat.2; simp at this hns; omega
   simp only [jf,bW,cK hk1]
   refine ⟨!((n0 :: ns').map V.int).isEmpty,.inl ⟨_,hS1,rfl⟩,?_⟩
   simp only [List.map_cons,List.isEmpty_cons,Bool.not_false,if_true]
   obtain ⟨j,rfl⟩:=Int.eq_ofNat_of_zero_le h0
   have hj:j < (n0 :: ns').length:=by have:=hat.2; omega
   refine ⟨a,_,_,.int ((n0 :: ns')[j]),rfl,rfl,hS1,yy (by rw [List.getElem?_map,List.getElem?_eq_getElem hj]; rfl),?_⟩
   simp only [cK hk1,bW]
   obtain ⟨rest,hrest⟩:=rest_int (j:Int) ((n0 :: ns')[j])
   rw [hrest]
   simp only [mF,oK,B2]
   refine ⟨⟨by decide,by decide,by decide⟩,?_⟩
   by_cases hb:(10:Int) ^ Int.toNat 18 ≤ rest
   ·simp only [hb,decide_true,cK ht1,bW,jf,oM,cK hk1,kN,nO,xk,tM,List.getElem?_cons_succ,List.getElem?_cons_zero,Option.join_some,mF,if_true]
    exact ⟨⟨hm,by omega⟩,hl64,hm,k _ _ (cf _ _ hm).1 (cf _ _ hm).2 (fin2 _ _ h0 h1).1 (fin2 _ _ h0 h1).2⟩
   ·simp only [hb,decide_false,Bool.false_eq_true,cK ht1,bW,je,mF,oK,if_false]
    refine ⟨.inl ⟨by decide,by decide⟩,by decide,?_⟩
    generalize hx:(rest + 104729 * (c + 1)) % 4294967291 = x
    have x0:0 ≤ x ∧ x < 4294967291:=by rw [← hx]; exact cf _ _ (by decide)
    refine ⟨⟨by decide,by decide,by omega⟩,by decide,?_⟩
    generalize hy:x ^ Int.toNat 5 % 4294967279 = y
    have y0:0 ≤ y ∧ y < 4294967279:=by rw [← hy]; exact cf _ _ (by decide)
    refine ⟨⟨by decide,by decide⟩,.inr ⟨by decide,by decide⟩,by decide,⟨by decide,by decide⟩,hm,k _ _ (cf _ _ hm).1 (cf _ _ hm).2 T1 s1⟩
def zy:Sp:=fun vs H Q _=>vs = [] ∧ ∀ t r H',nw H' t r → G2 H H' → H t = none → H r = none → Q (.ref t) H'
theorem uC:al [] [] (ag (aF 104)):=⟨rfl,rfl,rfl,by decide +kernel,rfl,by decide +kernel,by decide +kernel⟩
theorem DH (d:cY K mg "_law_begun" (aF 104)) (M:Mods mg):Ha P w K mg base "_law_begun" 1 [] zy:=by
 refine d.ok uC (fun vs H Q E h=>?_) (fun _ _ _ _ _ _ us hl=>match us,hl with | [],_=>rfl) (fun f cdv A outer s H vs Q E hr h=>?_)
 ·obtain ⟨rfl,_⟩:=h
  rfl
 ·obtain ⟨rfl,k⟩:=h
  apply Exists.intro; apply And.intro
  ·(conv=>arg 2; whnf)
   with_reducible exact (nJ (tj (yF (oB gT cT (oB gT vy yE)) (by with_unfolding_all rfl) (by with_unfolding_all rfl) (by simp) (by decide))))
  simp only [nO]
  intro p hp
  simp only [oA]
  simp only [F0]
  intro q hq
  have hqp:q ≠ p:=fun e=>by subst e; rw [aC] at hq; cases hq
  have hq0:H q = none:=by rw [← hq,am hqp]
  refine ⟨by rw [am hqp.symm]; exact aC,cx 0 q,rfl,by show 2 ≤ 15; decide,?_⟩
  have e:dm [] (cx 0 q) = cx 0 q:=by simp [dm,cx,cR,K5]
  rw [e]
  refine k p q _ ⟨hqp.symm,⟨0,aC⟩,[],by rw [am hqp]; exact aC,⟨List.nodup_nil,fun _ h=>by simp at h⟩⟩ ?_ hp hq0
  intro b o h
  rw [am (cS h hp),am (cS h hq0),am (cS h hp)]
  exact h
end
end RB
namespace RB
open PySem PySem.Spec PyProof.Rows L2
def ph (K:PySem.W.Frag) (F:Fx):Prop:=∃ a ns t r,F.ext 11 = .ref a ∧ F.ext 12 = .ref t ∧ F.own t ∧ F.own r ∧
 (∀ H,F.J H → fu K H a (List.map V.int ns) ∧ ns.length ≤ 63 ∧ nw H t r) ∧ ∀ H H',F.J H → nw H' t r → pf t r H H' → F.J H'
def DI (k:AV → aT → Bool) (S:aT):Nat → Bool
 | 0=>true
 | n + 1=>match DI k S n with
  | true=>k (.int false (.ofNat n) (.ofNat n)) S
  | false=>false
def JD (S:aT):aT:=⟨S.n,true,S.t⟩
def pi (r:BA):BE:=fun σ S k=>r σ S fun xs S1=>match xs with
 | [.ext i,.ext j,.int false (.ofNat lo) (.ofNat hi)]=>match Nat.beq i 11 && Nat.beq j 12 && Nat.beq lo hi with
  | true=>match Nat.blt lo 10 with
   | true=>match Nat.blt 0 lo with
    | true=>DI k S1 lo
    | false=>false
   | false=>match S1.sym with
    | true=>false
    | false=>match Nat.ble lo 1000 with
     | true=>match k (.int false 0 0) S1 with
      | true=>k (.int true 0 0) (JD S1)
      | false=>false
     | false=>false
  | false=>false
 | _=>false
section
theorem zz {k:AV → aT → Bool} {S:aT}:∀ {n:Nat},DI k S n = true → ∀ i,i < n → k (.int false (.ofNat i) (.ofNat i)) S = true
 | 0,_,i,hi=>absurd hi (Nat.not_lt_zero _)
 | n + 1,h,i,hi=>by
  unfold DI at h
  cases q:DI k S n with
  | false=>rw [q] at h; cases h
  | true =>
   rw [q] at h
   rcases Nat.lt_or_ge i n with z | z
   ·exact zz q i z
   ·have:i = n:=by omega
    subst this; exact h
theorem DJ {br:BA} (hd:∀ F,g.dr F → ph K F):∀ σ H Q,up g (pi br) σ H Q → mz (uB K) [] E0 (jM g br) σ H Q:=fun σ H Q ⟨F,y,ρ,S,σa,k,C,r,h,p⟩ =>
 bT C r h fun y1 ρ1 S1 H1 axs xs st C1 r1 rx h1=>by
  split at h1
  ·rename_i i j lo hi
   split at h1
   ·rename_i q
    simp only [Bool.and_eq_true] at q
    have ei:=Nat.eq_of_beq_eq_true q.1.1
    have ej:=Nat.eq_of_beq_eq_true q.1.2
    have el:=Nat.eq_of_beq_eq_true q.2
    subst ei ej el
    obtain ⟨a,ns,t,rr,e1,e2,ot,orr,fj,re⟩:=hd F C1.fl.dr
    match xs,rx with
    | [x0,x1,x2],.cons r0 (.cons r2 (.cons r3 .nil)) =>
    have e3:x0 = .ref a:=(show x0 = F.ext 11 from r0).trans e1
    have e4:x1 = .ref t:=(show x1 = F.ext 12 from r2).trans e2
    obtain ⟨z,rfl,b1,b2⟩:=r3
    have e5:z = Int.ofNat lo:=by omega
    subst e3 e4 e5
    obtain ⟨sq,hn,T⟩:=fj H1 C1.J
    -- what a draw leaves
    have nt:∀ c ∈ ρ1,c ≠ t ∧ c ≠ rr:=fun c hc=>⟨fun z=>C1.own c hc (by rw [z]; exact ot),fun z=>C1.own c hc (by rw [z]; exact orr)⟩
    have fin:∀ (x:Int) (H2:Hp) (y2:Option Int) (S2:aT) (av:AV),nw H2 t rr → pf t rr H1 H2 → (∀ z,y1 = some z → y2 = some z) → S2.n = S1.n → S2.t = S1.t → S2.sym = y2.isSome → (∀ z,y2 = some z → 1 ≤ z) → aY F y2 ρ1 H2 av (.int x) → k av S2 = true → Q (.int x) H2:=fun x H2 y2 S2 av T2 sx hy sn stt ss sp ra hk=>by
     have kt:∀ b vs,H1 b = some (.tup vs) → H2 b = some (.tup vs):=fun b vs q=>sx b _ q (T.notL q fun _ z=>nomatch z).1 (T.notL q fun _ z=>nomatch z).2
     have st2:aD F y1 ρ1 H1 y2 ρ1 H2:=by
      refine ⟨hy,⟨[],by simp⟩,fun _ h=>.inl h,fun b o q n w=>sx b o q (fun z=>w (by rw [z]; exact ot)) (fun z=>w (by rw [z]; exact orr)),kt,fun b q=>?_,fun b o u q=>sx b _ q (T.notL q fun _ z=>nomatch z).1 (T.notL q fun _ z=>nomatch z).2⟩
      cases e:H1 b with
      | none=>rfl
      | some o =>
       obtain ⟨_,⟨c,t1⟩,kvs,t2,_⟩:=T2
       by_cases z1:b = t
       ·rw [z1,t1] at q; cases q
       ·by_cases z2:b = rr
        ·rw [z2,t2] at q; cases q
        ·rw [sx b o e z1 z2] at q; cases q
     have C2:aM g F y2 ρ1 S2 H2:=by
      refine ⟨by rw [sn]; exact C1.n,ss,sp,C1.nd,fun i c ec=>?_,C1.own,C1.fe,fun b w q=>C1.ol b w (st2.live b q),re H1 H2 C1.J T2 sx,C1.fl⟩
      obtain ⟨o,ho,h1,h2,h3⟩:=C1.at_ i c ec
      have:=nt c (List.mem_of_getElem? ec)
      exact ⟨o,ho,by rw [stt]; exact h1,sx c ho h2 this.1 this.2,fV.mono st2 h3⟩
     exact p y2 ρ1 S2 H2 av _ (st.trans st2) C2 ra hk
    split at h1
    ·rename_i ql
     split at h1
     ·rename_i q0
      have q0:0 + 1 ≤ lo:=bO q0
      have ql:lo + 1 ≤ 10:=bO ql
      refine ⟨a,ns,t,rr,Int.ofNat lo,rfl,sq,hn,T,?_,?_,fun x H2 x0 x1 T2 sx=>?_⟩
      ·show (0:Int) < (lo:Int); omega
      ·show (lo:Int) ≤ 1000000; omega
      ·obtain ⟨n,rfl⟩:=Int.eq_ofNat_of_zero_le x0
       have hlt:n < lo:=by
        have:(n:Int) < (lo:Int):=x1
        omega
       exact fin _ H2 y1 S1 (.int false (.ofNat n) (.ofNat n)) T2 sx (fun _ h=>h) rfl rfl C1.sym C1.pos ⟨_,rfl,Int.le_refl _,Int.le_refl _⟩ (zz h1 n hlt)
     ·cases h1
    ·rename_i ql
     have ql:¬ lo < 10:=fun z=>by
      have:Nat.blt lo 10 = true:=by simp [Nat.blt_eq]; exact z
      rw [this] at ql; cases ql
     split at h1
     ·cases h1
     ·rename_i qs
      split at h1
      ·rename_i qm
       have qm:=bO qm
       split at h1
       ·rename_i h0
        refine ⟨a,ns,t,rr,Int.ofNat lo,rfl,sq,hn,T,?_,?_,fun x H2 x0 x1 T2 sx=>?_⟩
        ·show (0:Int) < (lo:Int); omega
        ·show (lo:Int) ≤ 1000000; omega
        ·by_cases z:x = 0
         ·subst z
          exact fin 0 H2 y1 S1 (.int false 0 0) T2 sx (fun _ h=>h) rfl rfl C1.sym C1.pos ⟨0,rfl,Int.le_refl _,Int.le_refl _⟩ h0
         ·have hy:y1 = none:=by
           have:=C1.sym
           rw [qs] at this
           cases y1 with
           | none=>rfl
           | some _=>cases this
          refine fin x H2 (some x) (JD S1) (.int true 0 0) T2 sx (fun w hw=>by rw [hy] at hw; cases hw) rfl rfl rfl (fun w hw=>by cases hw; omega) ⟨x,x,rfl,rfl,by omega,by omega⟩ h1
       ·cases h1
      ·cases h1
   ·cases h1
  ·cases h1
theorem ld {e:Expr} {p pos:Pos} {br:BA} (c:Ha X.prog X.w X.K X.mg X.base "_law_draw" 1 ["_law_script","_law_town","_law_many"] (uB X.K)) (hd:∀ F,g.dr F → ph X.K F) (hr:bQ 1 X.A) (ha:PA X (e :: es) (jM g br)) (hg:Gl X "_law_draw":=by with_unfolding_all rfl)
  (he:starEach (e :: es) X.env = (false,eval e X.env) :: starEach es X.env:=by with_unfolding_all rfl) (hpl:(backTo pos (starEach es X.env)).any (·.1) = false:=by with_unfolding_all rfl):PE X (.Call (.Name "_law_draw" p) (e :: es) [] pos) (up g (pi br)) :=
 PE.imp (DJ hd) (Hb c hr ha hg (by decide) he hpl)
end
structure KL (P:Program) (w:World) (K:PySem.W.Frag) (mg:Str → Option Value) (gy:Gy):Prop where
 d_is_whole:cY K mg "is_whole" (aF 17)
 d_is_stretch:cY K mg "is_stretch" (aF 18)
 d_reaches:cY K mg "reaches" (aF 25)
 d_earlier_end:cY K mg "earlier_end" (aF 26)
 d_later_end:cY K mg "later_end" (aF 27)
 d_meets:cY K mg "meets" (aF 23)
 d_gaps_of:cY K mg "gaps_of" (aF 24)
 d_both:cY K mg "both" (aF 22)
 d_without:cY K mg "without" (aF 21)
 d_joined:cY K mg "joined" (aF 20)
 d_is_key:cY K mg "is_key" (aF 33)
 d_check_task:cY K mg "check_task" (aF 34)
 d_check_awake:cY K mg "check_awake" (aF 35)
 d_check_file:cY K mg "check_file" (aF 36)
 d_check_mode:cY K mg "check_mode" (aF 37)
 d_check_kind:cY K mg "check_kind" (aF 38)
 d_check_by:cY K mg "check_by" (aF 39)
 d_check_stretch:cY K mg "check_stretch" (aF 41)
 d_mark_at:cY K mg "mark_at" (aF 42)
 d_mark_of:cY K mg "mark_of" (aF 43)
 d_awake_mark:cY K mg "awake_mark" (aF 44)
 d_ask_entry:cY K mg "ask_entry" (aF 46)
 d_lock_order:cY K mg "lock_order" (aF 48)
 d_lock_rows:cY K mg "lock_rows" (aF 49)
 d_told_locks:cY K mg "told_locks" (aF 50)
 d_told_asks:cY K mg "told_asks" (aF 52)
 d_ask_of:cY K mg "ask_of" (aF 53)
 d_clash:cY K mg "clash" (aF 54)
 d_blocking_stretches:cY K mg "blocking_stretches" (aF 55)
 d_blocking_wholes:cY K mg "blocking_wholes" (aF 56)
 d_blocking_locks:cY K mg "blocking_locks" (aF 57)
 d_asks_are_against:cY K mg "asks_are_against" (aF 58)
 d_blocking_asks:cY K mg "blocking_asks" (aF 59)
 d_is_blocked:cY K mg "is_blocked" (aF 60)
 d_first_blocker:cY K mg "first_blocker" (aF 61)
 d_keep_lots:cY K mg "keep_lots" (aF 62)
 d_free_cells:cY K mg "free_cells" (aF 63)
 d_take:cY K mg "take" (aF 64)
 d_wake:cY K mg "wake" (aF 67)
 d_tasks_behind:cY K mg "tasks_behind" (aF 68)
 d_needs_of:cY K mg "needs_of" (aF 69)
 d_can_go:cY K mg "can_go" (aF 70)
 d_stuck_asks:cY K mg "stuck_asks" (aF 71)
 d_fall_asleep:cY K mg "fall_asleep" (aF 66)
 d_give_up_stuck:cY K mg "give_up_stuck" (aF 72)
 d_first_unblocked:cY K mg "first_unblocked" (aF 73)
 d_grant:cY K mg "grant" (aF 74)
 d_settle:cY K mg "settle" (aF 75)
 d_new_handle:cY K mg "new_handle" (aF 78)
 d_add_user:cY K mg "add_user" (aF 79)
 d_lead:cY K mg "lead" (aF 80)
 d_lose_user:cY K mg "lose_user" (aF 81)
 d_shut:cY K mg "shut" (aF 82)
 d_end_task:cY K mg "end_task" (aF 83)
 d_take_or_wait:cY K mg "take_or_wait" (aF 84)
 d_do_begin:cY K mg "do_begin" (aF 85)
 d_do_attach:cY K mg "do_attach" (aF 86)
 d_do_end:cY K mg "do_end" (aF 90)
 d_do_lock:cY K mg "do_lock" (aF 91)
 d_do_unlock:cY K mg "do_unlock" (aF 92)
 d_do_cancel:cY K mg "do_cancel" (aF 93)
 d_do_deed:cY K mg "do_deed" (aF 97)
 d__law_draw:cY K mg "_law_draw" (aF 103)
 d__law_begun:cY K mg "_law_begun" (aF 104)
 d_lot_of:∃ c,Hh K mg "lot_of" (aF 19) c ∧ PySem.W.codeHdIn K c gy.tT = true
 t_Tables_put:wn K (gy.cl 0) "put" "Tables.put" (aA (aF 99) 1)
 t_Tables_drop:wn K (gy.cl 0) "drop" "Tables.drop" (aA (aF 99) 2)
 t_Tables_fresh:wn K (gy.cl 0) "fresh" "Tables.fresh" (aA (aF 99) 4)
 t_Desk_perform:wn K (gy.cl 1) "perform" "Desk.perform" (aA (aF 101) 1)
 t_Desk_do:wn K (gy.cl 1) "do" "Desk.do" (aA (aF 101) 2)
 t_Desk_begin:wn K (gy.cl 1) "begin" "Desk.begin" (aA (aF 101) 3)
 t_Desk_end:wn K (gy.cl 1) "end" "Desk.end" (aA (aF 101) 8)
 t_Desk_unlock:wn K (gy.cl 1) "unlock" "Desk.unlock" (aA (aF 101) 10)
 t_Desk_cancel:wn K (gy.cl 1) "cancel" "Desk.cancel" (aA (aF 101) 11)
 t_Desk_probe:wn K (gy.cl 1) "probe" "Desk.probe" (aA (aF 101) 18)
 t_Desk_asks:wn K (gy.cl 1) "asks" "Desk.asks" (aA (aF 101) 22)
 t_Desk_outcome:wn K (gy.cl 1) "outcome" "Desk.outcome" (aA (aF 101) 23)
 t_Desk_why:wn K (gy.cl 1) "why" "Desk.why" (aA (aF 101) 24)
 t_Desk_locks:wn K (gy.cl 1) "locks" "Desk.locks" (aA (aF 101) 19)
 t_Desk_attach:∃ h t x t1,bf[15]? = some x ∧ xS K (gy.cl 1) "attach" "Desk.attach" (aA (aF 101) 4) #[⟨h,.str "mode" t,.str x t1⟩]
 t_Desk_lock:∃ h t v h1 t1,xS K (gy.cl 1) "lock" "Desk.lock" (aA (aF 101) 9) #[⟨h,.str "by" t,v⟩,⟨h1,.str "wait" t1,.bool false⟩]
 i_Tables:JB K (gy.cl 0) "Tables.__init__" (aA (aF 99) 0)
 i_Desk:JB K (gy.cl 1) "Desk.__init__" (aA (aF 101) 0)
 g_Tables:mg "Tables" = some (.ref (gy.cl 0))
 g_Desk:mg "Desk" = some (.ref (gy.cl 1))
 g_do_begin:mg "do_begin" = some (.ref (gy.fe 0))
 g_do_attach:mg "do_attach" = some (.ref (gy.fe 1))
 g_do_end:mg "do_end" = some (.ref (gy.fe 5))
 g_do_lock:mg "do_lock" = some (.ref (gy.fe 6))
 g_do_unlock:mg "do_unlock" = some (.ref (gy.fe 7))
 g_do_cancel:mg "do_cancel" = some (.ref (gy.fe 8))
 M:Jt mg
 G:iA K gy
 T:Lb P w K mg gy
 hP:gy.tP = xR
 hQ:gy.tQ = ux
 hd:gy.dr = ph K
 nT:mainGlobals ≠ gy.tT
structure Wr (P:Program) (w:World) (K:PySem.W.Frag) (mg:Str → Option Value) (base:Heap) (gy:Gy):Prop extends KL P w K mg gy where
 hB:base.BuiltinsAt mg gy.tT
section
abbrev Wr.cal (_:Wr P w K mg base gy) (x:Str) (k n:Nat) (b:BF):Prop:=vX P w K mg base gy fT x k n b
abbrev Wr.met (_:Wr P w K mg base gy) (c:Nat) (x:Str) (k n:Nat) (dA:List AV) (b:BF):Prop:=CG P w K mg base gy fT c x k n dA b
end
section
variable (W:Wr P w K mg base gy)
local macro_rules | `(tactic| rfl) => `(tactic| with_unfolding_all exact rfl)
local macro_rules | `(tactic| trivial) => `(tactic| with_unfolding_all (first | exact Or.inl rfl | exact Or.inr rfl | exact jH _ | exact (fun _ _ => rfl) | exact (fun _ => rfl) | exact ⟨rfl, rfl, rfl, rfl⟩))
theorem wo:al ["thing"] ["thing"] (ag (aF 17)):=cE
@[reducible] def wp:BS:=(a7 (vI (EW .int (ad 0)) (F6 (EW .bool (ad 0)))))
def fN:BF:=cq 1 wp
theorem f9:W.cal "is_whole" 1 1 fN:=by
 refine bx W.d_is_whole wo (b1 fun _=>rfl) fun hr hu=>?_
 (conv=>arg 2; whnf)
 with_reducible exact (ai (aE (tV (xw .int (by rfl) W.M.isinstance (uv 0) (tf (v:=.ty "int") (by rfl) W.M.int zW (by rfl))) (g6 (Hm (xw .bool (by rfl) W.M.isinstance (uv 0) (tf (v:=.ty "bool") (by rfl) W.M.bool oI (by rfl))))))))
theorem gk:al ["thing","first","end"] ["thing"] (ag (aF 18)):=cE
@[reducible] def qI:BS:=(aq (bL (D9 (ni (bB (EW .tuple (ad 0)))) (bB (bn Ga (iR t4 (ab (ad 0) aj)) (bI 2))))
 (a7 (bC (.bl false)))
 a6)
 (aq (aZ (ad 0) (cA 2 (au (ah 1) (au (ah 2) cF))))
 (aq (bL (D9 (ni (bB (aB (bJ 1 fN) (ab (ad 1) aj)))) (bB (bn F8 (ad 1) (bI 0))))
 (a7 (bC (.bl false)))
 a6)
 (a7 (Cd (gH (ad 2)) (vI (aB (bJ 1 fN) (ab (ad 2) aj)) (bn F8 (ad 1) (ad 2))))))))
def lg:BF:=cq 3 qI
theorem qJ:W.cal "is_stretch" 2 1 lg:=by
 refine bx W.d_is_stretch gk (b1 fun _=>rfl) fun hr hu=>?_
 (conv=>arg 2; whnf)
 with_reducible exact (af (a5 (PW.pt (mG (fI (dM (xw .tuple (by rfl) W.M.isinstance (uv 0) (tf (v:=.ty "tuple") (by rfl) W.M.tuple bH (by rfl))))) (jN (bv oj jP (bN d8 g8 (by rfl) W.M.len PySem.boot_len (aa (uv 0) ae)) ap (by trivial))))) (ai (aE fF)) aQ)
   (af (dQ (dl (uv 0) (b9 (n:=2) (by rfl) (ao (ug 1 gk.nd) (ao (ug 2 gk.nd) bo)))))
   (af (a5 (PW.pt (mG (fI (dM (uc (f9 W) hr (aa (uv 1) ae)))) (jN (bv om jO (uv 1) ap (by trivial))))) (ai (aE fF)) aQ)
   (ai (aE (yO (tX (oh (cU (uv 2)))) (g6 (tV (uc (f9 W) hr (aa (uv 2) ae)) (g6 (fG om jO (uv 1) (uv 2) (by trivial)))))))))))
theorem xT:al ["end","cell"] ["end","cell"] (ag (aF 25)):=cE
@[reducible] def xU:BS:=(a7 (Cd (gH (ad 0)) (bn K2 (ad 0) (ad 1))))
def sO:BF:=cq 2 xU
theorem xV:W.cal "reaches" 1 2 sO:=by
 refine bx W.d_reaches xT (b2 fun _ _=>rfl) fun hr hu=>?_
 (conv=>arg 2; whnf)
 with_reducible exact (ai (aE (yO (tX (oh (cU (uv 0)))) (g6 (fG FQ Hq (uv 0) (uv 1) (by trivial))))))
theorem pj:al ["one","other"] ["one","other"] (ag (aF 26)):=cE
@[reducible] def pk:BS:=(aq (bL (bB (gH (ad 0)))
 (a7 (ad 1))
 a6)
 (aq (bL (bB (gH (ad 1)))
 (a7 (ad 0))
 a6)
 (a7 (iR Ht (ab (ad 0) (ab (ad 1) aj))))))
def gl:BF:=cq 2 pk
theorem iV:W.cal "earlier_end" 1 2 gl:=by
 refine bx W.d_earlier_end pj (b2 fun _ _=>rfl) fun hr hu=>?_
 (conv=>arg 2; whnf)
 with_reducible exact (af (a5 (ee (cV (cU (uv 0)))) (ai (aE (uv 1))) aQ)
   (af (a5 (ee (cV (cU (uv 1)))) (ai (aE (uv 0))) aQ)
   (ai (aE (bN (xp (by rfl)) EU (by rfl) W.M.min zX (aa (uv 0) (aa (uv 1) ae)))))))
theorem uD:al ["one","other"] ["one","other"] (ag (aF 27)):=cE
@[reducible] def uE:BS:=(aq (bL (D9 (bB (gH (ad 0))) (bB (gH (ad 1))))
 (a7 (bC .non))
 a6)
 (a7 (iR Ct (ab (ad 0) (ab (ad 1) aj)))))
def mN:BF:=cq 2 uE
theorem uF:W.cal "later_end" 1 2 mN:=by
 refine bx W.d_later_end uD (b2 fun _ _=>rfl) fun hr hu=>?_
 (conv=>arg 2; whnf)
 with_reducible exact (af (a5 (PW.pt (mG (ee (cV (cU (uv 0)))) (jN (ee (cV (cU (uv 1))))))) (ai (aE iO)) aQ)
   (ai (aE (bN (jL (by rfl)) t5 (by rfl) W.M.max lP (aa (uv 0) (aa (uv 1) ae))))))
theorem wq:al ["one","other","end"] ["one","other"] (ag (aF 23)):=cE
@[reducible] def DK:BS:=(aq (aZ (aB (bJ 2 gl) (ab (bn eU (ad 0) (bI 1)) (ab (bn eU (ad 1) (bI 1)) aj))) (ah 2))
 (a7 (Cd (gH (ad 2)) (bn F8 (iR Ct (ab (bn eU (ad 0) (bI 0)) (ab (bn eU (ad 1) (bI 0)) aj))) (ad 2)))))
def n9:BF:=cq 3 DK
theorem pq:W.cal "meets" 2 2 n9:=by
 refine bx W.d_meets wq (b2 fun _ _=>rfl) fun hr hu=>?_
 (conv=>arg 2; whnf)
 with_reducible exact (af (ua 2 wq.nd (uc (iV W) hr (aa (a8 (uv 0) ap (by trivial)) (aa (a8 (uv 1) ap (by trivial)) ae))))
   (ai (aE (yO (tX (oh (cU (uv 2)))) (g6 (fG om jO (bN (jL (by rfl)) t5 (by rfl) W.M.max lP (aa (a8 (uv 0) ap (by trivial)) (aa (a8 (uv 1) ap (by trivial)) ae))) (uv 2) (by trivial)))))))
theorem eh:al ["lot","rows","start","first","end"] ["lot"] (ag (aF 24)):=cE
@[reducible] def xW:BS:=(aq (aZ (fE aj) (ah 1))
 (aq (aZ (bI 0) (ah 2))
 (aq (no 40 (fJ (ad 0)) (cA 2 (au (ah 3) (au (ah 4) cF)))
 (aq (bL (bB (bn F8 (ad 2) (ad 3)))
 (aK (Ag fm (ad 1) (ab (bD (ab (ad 2) (ab (ad 3) aj))) aj)))
 a6)
 (aq (bL (bB (gH (ad 4)))
 (a7 (iR eg (ab (ad 1) aj)))
 a6)
 (aZ (ad 4) (ah 2)))))
 (aq (aK (Ag fm (ad 1) (ab (bD (ab (ad 2) (ab (bC .non) aj))) aj)))
 (a7 (iR eg (ab (ad 1) aj)))))))
def sP:BF:=cq 5 xW
theorem xX:W.cal "gaps_of" 1 1 sP:=by
 refine bx W.d_gaps_of eh (b1 fun _=>rfl) fun hr hu=>?_
 (conv=>arg 2; whnf)
 with_reducible exact (af (ua 1 eh.nd (cp ae))
   (af (ua 2 eh.nd ap)
   (af (gj 40 PassesOwn.never (by rfl) (dR (dF (uv 0))) (b9 (n:=2) (by rfl) (ao (ug 3 eh.nd) (ao (ug 4 eh.nd) bo))) (af (a5 (bv om jO (uv 2) (uv 3) (by trivial)) (ai (ar (iT du (iJ PySem.F.plainAttrs_list PySem.F.slot_list_append PySem.F.type_list_append (by with_unfolding_all exact dq) (uv 1) (aa (aJ (aa (uv 2) (aa (uv 3) ae))) ae))))) aQ)
   (af (a5 (ee (cV (cU (uv 4)))) (ai (aE (bY bS cz (by rfl) W.M.tuple bH (aa (uv 1) ae)))) aQ)
   (ai (ua 2 eh.nd (uv 4))))))
   (af (ar (iT du (iJ PySem.F.plainAttrs_list PySem.F.slot_list_append PySem.F.type_list_append (by with_unfolding_all exact dq) (uv 1) (aa (aJ (aa (uv 2) (aa iO ae))) ae))))
   (ai (aE (bY bS cz (by rfl) W.M.tuple bH (aa (uv 1) ae))))))))
theorem ga:al ["one","other","rows","at","beside","left","right","end"] ["one","other"] (ag (aF 22)):=cE
@[reducible] def FA:BS:=(aq (aZ (fE aj) (ah 2))
 (aq (aZ (bI 0) (ah 3))
 (aq (aZ (bI 0) (ah 4))
 (aq (gi 40 (Aa (bB (bn F8 (ad 3) (iR t4 (ab (ad 0) aj)))) (bB (bn F8 (ad 4) (iR t4 (ab (ad 1) aj)))))
 (aq (Jr 5 6 (ab (bn eU (ad 0) (ad 3)) (ab (bn eU (ad 1) (ad 4)) aj)))
 (aq (aZ (aB (bJ 2 gl) (ab (bn eU (ad 5) (bI 1)) (ab (bn eU (ad 6) (bI 1)) aj))) (ah 7))
 (aq (bL (bB (aB (bJ 2 n9) (ab (ad 5) (ab (ad 6) aj))))
 (aK (Ag fm (ad 2) (ab (bD (ab (iR Ct (ab (bn eU (ad 5) (bI 0)) (ab (bn eU (ad 6) (bI 0)) aj))) (ab (ad 7) aj))) aj)))
 a6)
 (bL (bB (bn r9 (bn eU (ad 5) (bI 1)) (ad 7)))
 (Cw 3 fk (bI 1))
 (Cw 4 fk (bI 1)))))))
 (a7 (iR eg (ab (ad 2) aj)))))))
def DL:BF:=cq 8 FA
theorem FB:W.cal "both" 3 2 DL:=by
 refine bx W.d_both ga (b2 fun _ _=>rfl) fun hr hu=>?_
 (conv=>arg 2; whnf)
 with_reducible exact (af (ua 2 ga.nd (cp ae))
   (af (ua 3 ga.nd ap)
   (af (ua 4 ga.nd ap)
   (af (kW 40 PassesOwn.never (PW.pt (tU (bv om jO (uv 3) (bN d8 g8 (by rfl) W.M.len PySem.boot_len (aa (uv 0) ae)) (by trivial)) (nR (bv om jO (uv 4) (bN d8 g8 (by rfl) W.M.len PySem.boot_len (aa (uv 1) ae)) (by trivial))))) (af (Hy (GI (i:=5) (j:=6) (by rfl) ga.nd (by rfl) (by rfl) (by decide) (by rfl) (by rfl) (aa (a8 (uv 0) (uv 3) (by trivial)) (aa (a8 (uv 1) (uv 4) (by trivial)) ae)) (by rfl)))
   (af (ua 7 ga.nd (uc (iV W) hr (aa (a8 (uv 5) ap (by trivial)) (aa (a8 (uv 6) ap (by trivial)) ae))))
   (af (a5 (dM (uc (pq W) hr (aa (uv 5) (aa (uv 6) ae)))) (ai (ar (iT du (iJ PySem.F.plainAttrs_list PySem.F.slot_list_append PySem.F.type_list_append (by with_unfolding_all exact dq) (uv 2) (aa (aJ (aa (bN (jL (by rfl)) t5 (by rfl) W.M.max lP (aa (a8 (uv 5) ap (by trivial)) (aa (a8 (uv 6) ap (by trivial)) ae))) (aa (uv 7) ae))) ae))))) aQ)
   (ai (a5 (bv dG cG (a8 (uv 5) ap (by trivial)) (uv 7) (by trivial)) (ai (xx lW (wQ (i:=3) ga.nd (by rfl) (by trivial) ap wR))) (ai (xx lW (wQ (i:=4) ga.nd (by rfl) (by trivial) ap wR)))))))))
   (ai (aE (bY bS cz (by rfl) W.M.tuple bH (aa (uv 2) ae))))))))
theorem xY:al ["one","other"] ["one","other"] (ag (aF 21)):=cE
@[reducible] def xZ:BS:=(a7 (aB (bJ 2 DL) (ab (ad 0) (ab (aB (bJ 1 sP) (ab (ad 1) aj)) aj))))
def l5:BF:=cq 2 xZ
theorem pz:W.cal "without" 4 2 l5:=by
 refine bx W.d_without xY (b2 fun _ _=>rfl) fun hr hu=>?_
 (conv=>arg 2; whnf)
 with_reducible exact (ai (aE (uc (FB W) hr (aa (uv 0) (aa (uc (xX W) hr (aa (uv 1) ae)) ae)))))
theorem jg:al ["stretches","rows","first","end"] ["stretches"] (ag (aF 19)):=cE
@[reducible] def AS:BS:=(aq (aZ (fE aj) (ah 1))
 (aq (no 40 (jt (uk (ad 0))) (cA 2 (au (ah 2) (au (ah 3) cF)))
 (bL (Aa (gL (ad 1)) (bB (aB (bJ 2 sO) (ab (bn eU (bn eU (ad 1) (Ap (bI 1))) (bI 1)) (ab (ad 2) aj)))))
 (Gc (ad 1) (Ap (bI 1)) (bD (ab (bn eU (bn eU (ad 1) (Ap (bI 1))) (bI 0)) (ab (aB (bJ 2 mN) (ab (bn eU (bn eU (ad 1) (Ap (bI 1))) (bI 1)) (ab (ad 3) aj))) aj))))
 (aK (Ag fm (ad 1) (ab (bD (ab (ad 2) (ab (ad 3) aj))) aj)))))
 (a7 (iR eg (ab (ad 1) aj)))))
def wr:BF:=cq 4 AS
theorem AT:W.cal "lot_of" 2 1 wr:=by
 obtain ⟨c,d,hc⟩:=W.d_lot_of
 have hL:=Fv (mg:=mg) hc W.nT
 refine Ft (n:=1) d jg (hb:=fun _ _ _ _ _ _ us hl=>match us,hl with | [_],_=>rfl) (hbody:=fun f A outer s H E hr=>?_)
 have hu:=da hr
 (conv=>arg 2; whnf)
 with_reducible exact (af (ua 1 jg.nd (cp ae))
   (af (gj 40 PassesOwn.never (by rfl) (hJ (fi (AN W.hP W.hQ (B9 hL W.hB (by rfl) hr.depth W.M.sorted (uv 0))))) (b9 (n:=2) (by rfl) (ao (ug 2 jg.nd) (ao (ug 3 jg.nd) bo))) (ai (a5 (PW.pt (tU (cH (ca (uv 1))) (nR (dM (uc (xV W) hr (aa (a8 (a8 (uv 1) (oU ap) (by trivial)) ap (by trivial)) (aa (uv 2) ae))))))) (ai (E2 (value:=.Name "" ⟨0,0,0,0⟩) (dl (aJ (aa (a8 (a8 (uv 1) (oU ap) (by trivial)) ap (by trivial)) (aa (uc (uF W) hr (aa (a8 (a8 (uv 1) (oU ap) (by trivial)) ap (by trivial)) (aa (uv 3) ae))) ae))) (GH (uv 1) (oU ap) By)))) (ai (ar (iT du (iJ PySem.F.plainAttrs_list PySem.F.slot_list_append PySem.F.type_list_append (by with_unfolding_all exact dq) (uv 1) (aa (aJ (aa (uv 2) (aa (uv 3) ae))) ae))))))))
   (ai (aE (bY bS cz (by rfl) W.M.tuple bH (aa (uv 1) ae))))))
theorem AU:al ["one","other"] ["one","other"] (ag (aF 20)):=cE
@[reducible] def AW:BS:=(a7 (aB (bJ 1 wr) (ab (bn iS (ad 0) (ad 1)) aj)))
def pA:BF:=cq 2 AW
theorem sQ:W.cal "joined" 3 2 pA:=by
 refine bx W.d_joined AU (b2 fun _ _=>rfl) fun hr hu=>?_
 (conv=>arg 2; whnf)
 with_reducible exact (ai (aE (uc (AT W) hr (aa (bP dI dP (uv 0) (uv 1)) ae))))
theorem jW:al ["self","files","fair"] ["self","files","fair"] (ag (aA (aF 99) 0)):=cE
abbrev gm:Scope:=uz [("file",.local)]
theorem eR:aW (ag (aA (aF 99) 0)) ["self","files","fair"] gm ["file"] [none]:=uA
abbrev gn:Scope:=uz [("file",.local)]
theorem eS:aW (ag (aA (aF 99) 0)) ["self","files","fair"] gn ["file"] [none]:=uA
@[reducible] def jX:BS:=(aq (d5 31 (ad 0) (ad 1))
 (aq (d5 29 (ad 0) (ad 2))
 (aq (d5 35 (ad 0) (Gm (ub (bC (.str 66)) (bI 0) (ub (bC (.str 45)) (bI 0) (ub (bC (.str 3)) (bI 0) Gf)))))
 (aq (d5 41 (ad 0) jQ)
 (aq (d5 54 (ad 0) jQ)
 (aq (d5 38 (ad 0) (IA 40 [none] (fJ (ad 1)) (ah 0) kX (ad 0) Cq))
 (aq (d5 75 (ad 0) (IA 40 [none] (fJ (ad 1)) (ah 0) kX (ad 0) jQ))
 (aq (d5 73 (ad 0) jQ)
 (aq (d5 5 (ad 0) jQ)
 (aq (d5 56 (ad 0) jQ)
 (d5 19 (ad 0) (fE aj))))))))))))
def gb:BF:=cq 3 jX
theorem lh (W:Wr P w K mg base gy):KB P w K mg base gy fT 0 "Tables" 1 3 gb:=by
 refine KJ W.i_Tables W.g_Tables jW (b3 fun _ _ _=>rfl) fun hr hu=>?_
 (conv=>arg 2; whnf)
 with_reducible exact (af (cZ 31 (by decide +kernel) (by decide) W.G.cls W.G.na_files (uv 0) (uv 1) (by rfl))
   (af (cZ 29 (by decide +kernel) (by decide) W.G.cls W.G.na_fair (uv 0) (uv 2) (by rfl))
   (af (cZ 35 (by decide +kernel) (by decide) W.G.cls W.G.na_given (uv 0) (Fs (o8 (aP 66) ap (o8 (aP 45) ap (o8 (aP 3) ap Fq))) (by rfl) (by rfl) (by simp) (by decide)) (by rfl))
   (af (cZ 41 (by decide +kernel) (by decide) W.G.cls W.G.na_leads (uv 0) gJ (by rfl))
   (af (cZ 54 (by decide +kernel) (by decide) W.G.cls W.G.na_opened (uv 0) gJ (by rfl))
   (af (cZ 38 (by decide +kernel) (by decide) W.G.cls W.G.na_held (uv 0) (Gi 40 (by decide) (Gh (by rfl) (by with_unfolding_all exact eR) (dR (dF (uv 1))) (fun _ _ _ _ _=>(ug 0 eR.nd)) (fun _ _ _ _ _=>cB) (fun _ _ _ _ _=>(uv 0)) (fun _ _ _ _ _=>Cr))) (by rfl))
   (af (cZ 75 (by decide +kernel) (by decide) W.G.cls W.G.na_whole (uv 0) (Gi 40 (by decide) (Gh (by rfl) (by with_unfolding_all exact eS) (dR (dF (uv 1))) (fun _ _ _ _ _=>(ug 0 eS.nd)) (fun _ _ _ _ _=>cB) (fun _ _ _ _ _=>(uv 0)) (fun _ _ _ _ _=>gJ))) (by rfl))
   (af (cZ 73 (by decide +kernel) (by decide) W.G.cls W.G.na_waiting (uv 0) gJ (by rfl))
   (af (cZ 5 (by decide +kernel) (by decide) W.G.cls W.G.na_asleep (uv 0) gJ (by rfl))
   (af (cZ 56 (by decide +kernel) (by decide) W.G.cls W.G.na_outcomes (uv 0) gJ (by rfl))
   (ai (cZ 19 (by decide +kernel) (by decide) W.G.cls W.G.na_changes (uv 0) (cp ae) (by rfl)))))))))))))
theorem qK:al ["self","table","key","value"] ["self","table","key","value"] (ag (aA (aF 99) 1)):=cE
@[reducible] def qL:BS:=(aq (aK (Ag fm (aS 19 (ad 0)) (ab (bD (ab (ad 1) (ab (ad 2) (ab (Gb (ad 1) (ad 2)) aj)))) aj)))
 (Co (ad 1) (ad 2) (ad 3)))
def bg:BF:=cq 4 qL
theorem bq:W.met 0 "put" 1 4 [] bg:=by
 refine nv W.t_Tables_put qK (b4 fun _ _ _ _=>rfl) fun hr hu=>?_
 (conv=>arg 2; whnf)
 with_reducible exact (af (ar (iT du (iJ PySem.F.plainAttrs_list PySem.F.slot_list_append PySem.F.type_list_append (by with_unfolding_all exact dq) (jV W.G (uv 0)) (aa (aJ (aa (uv 1) (aa (uv 2) (aa (ET hu (uv 1) (uv 2) (by trivial)) ae)))) ae))))
   (ai (yZ hu (uv 1) (uv 2) (uv 3) (by rfl))))
theorem pB:al ["self","table","key"] ["self","table","key"] (ag (aA (aF 99) 2)):=cE
@[reducible] def pC:BS:=(bL (bB (vQ (ad 2) (ad 1)))
 (aq (aK (Ag fm (aS 19 (ad 0)) (ab (bD (ab (ad 1) (ab (ad 2) (ab (bM (ad 1) (ad 2)) aj)))) aj)))
 (Dt (ad 1) (ad 2)))
 a6)
def bR:BF:=cq 3 pC
theorem cb:W.met 0 "drop" 1 3 [] bR:=by
 refine nv W.t_Tables_drop pB (b3 fun _ _ _=>rfl) fun hr hu=>?_
 (conv=>arg 2; whnf)
 with_reducible exact (ai (a5 (xu hu (uv 2) (uv 1) (by rfl)) (af (ar (iT du (iJ PySem.F.plainAttrs_list PySem.F.slot_list_append PySem.F.type_list_append (by with_unfolding_all exact dq) (jV W.G (uv 0)) (aa (aJ (aa (uv 1) (aa (uv 2) (aa (aV hu (uv 1) (uv 2) (by trivial)) ae)))) ae))))
   (ai (zp hu (uv 1) (uv 2)))) aQ))
theorem im:al ["self","sort","number"] ["self","sort"] (ag (aA (aF 99) 4)):=cE
@[reducible] def ny:BS:=(aq (aZ (bM (aS 35 (ad 0)) (ad 1)) (ah 2))
 (aq (aK (bh 0 4 [] bg (ad 0) (ab (aS 35 (ad 0)) (ab (ad 1) (ab (bn fk (ad 2) (bI 1)) aj)))))
 (a7 (ad 2))))
def dU:BF:=cq 3 ny
theorem fO:W.met 0 "fresh" 2 2 [] dU:=by
 refine nv W.t_Tables_fresh im (b2 fun _ _=>rfl) fun hr hu=>?_
 (conv=>arg 2; whnf)
 with_reducible exact (af (ua 2 im.nd (aV hu (o9 W.G (uv 0)) (uv 1) (by trivial)))
   (af (ar (um (bq W) W.G.c0 hr (uv 0) (aa (o9 W.G (uv 0)) (aa (uv 1) (aa (bP ck bX (uv 2) ap) ae)))))
   (ai (aE (uv 2)))))
end
section
variable (W:Wr P w K mg base gy)
local macro_rules | `(tactic| rfl) => `(tactic| with_unfolding_all exact rfl)
local macro_rules | `(tactic| trivial) => `(tactic| with_unfolding_all (first | exact Or.inl rfl | exact Or.inr rfl | exact jH _ | exact (fun _ _ => rfl) | exact (fun _ => rfl) | exact ⟨rfl, rfl, rfl, rfl⟩))
theorem AX:al ["table","number"] ["table","number"] (ag (aF 33)):=cE
@[reducible] def AY:BS:=(a7 (vI (aB (bJ 1 fN) (ab (ad 1) aj)) (vQ (ad 1) (ad 0))))
def pE:BF:=cq 2 AY
theorem sR:W.cal "is_key" 2 2 pE:=by
 refine bx W.d_is_key AX (b2 fun _ _=>rfl) fun hr hu=>?_
 (conv=>arg 2; whnf)
 with_reducible exact (ai (aE (tV (uc (f9 W) hr (aa (uv 1) ae)) (g6 (Cp hu (uv 1) (uv 0) (by rfl))))))
theorem qM:al ["tables","task"] ["tables","task"] (ag (aF 34)):=cE
@[reducible] def qN:BS:=(bL (ni (bB (aB (bJ 2 pE) (ab (aS 41 (ad 0)) (ab (ad 1) aj)))))
 cO
 a6)
def dW:BF:=cq 2 qN
theorem eJ:W.cal "check_task" 3 2 dW:=by
 refine bx W.d_check_task qM (b2 fun _ _=>rfl) fun hr hu=>?_
 (conv=>arg 2; whnf)
 with_reducible exact (ai (a5 (fI (dM (uc (sR W) hr (aa (c4 W.G (uv 0)) (aa (uv 1) ae))))) (ai bU) aQ))
theorem pF:al ["tables","task"] ["tables","task"] (ag (aF 35)):=cE
@[reducible] def pG:BS:=(aq (aK (aB (bJ 2 dW) (ab (ad 0) (ab (ad 1) aj))))
 (bL (bB (vQ (ad 1) (aS 5 (ad 0))))
 cO
 a6))
def gp:BF:=cq 2 pG
theorem iW:W.cal "check_awake" 4 2 gp:=by
 refine bx W.d_check_awake pF (b2 fun _ _=>rfl) fun hr hu=>?_
 (conv=>arg 2; whnf)
 with_reducible exact (af (ar (uc (eJ W) hr (aa (uv 0) (aa (uv 1) ae))))
   (ai (a5 (xu hu (uv 1) (dB W.G (uv 0)) (by rfl)) (ai bU) aQ)))
theorem qO:al ["tables","file"] ["tables","file"] (ag (aF 36)):=cE
@[reducible] def qP:BS:=(bL (bB (bn (Iy true) (ad 1) (aS 31 (ad 0))))
 cO
 a6)
def hV:BF:=cq 2 qP
theorem jw:W.cal "check_file" 1 2 hV:=by
 refine bx W.d_check_file qO (b2 fun _ _=>rfl) fun hr hu=>?_
 (conv=>arg 2; whnf)
 with_reducible exact (ai (a5 (bv rY t6 (uv 1) (DF W.G (uv 0)) (by rfl)) (ai bU) aQ))
theorem qQ:al ["mode"] ["mode"] (ag (aF 37)):=cE
@[reducible] def qR:BS:=(bL (bB (Dx true sJ (ad 0)))
 cO
 a6)
def li:BF:=cq 1 qR
theorem qS:W.cal "check_mode" 1 1 li:=by
 refine bx W.d_check_mode qQ (b1 fun _=>rfl) fun hr hu=>?_
 (conv=>arg 2; whnf)
 with_reducible exact (ai (a5 (uw (by rfl) W.T.g_MODES (uv 0) (by rfl)) (ai bU) aQ))
theorem qT:al ["kind"] ["kind"] (ag (aF 38)):=cE
@[reducible] def qU:BS:=(bL (bB (Dx true sI (ad 0)))
 cO
 a6)
def hW:BF:=cq 1 qU
theorem jx:W.cal "check_kind" 1 1 hW:=by
 refine bx W.d_check_kind qT (b1 fun _=>rfl) fun hr hu=>?_
 (conv=>arg 2; whnf)
 with_reducible exact (ai (a5 (uw (by rfl) W.T.g_KINDS (uv 0) (by rfl)) (ai bU) aQ))
theorem wt:al ["by"] ["by"] (ag (aF 39)):=cE
@[reducible] def wu:BS:=(bL (bB (Dx true mL (ad 0)))
 cO
 a6)
def hX:BF:=cq 1 wu
theorem iX:W.cal "check_by" 1 1 hX:=by
 refine bx W.d_check_by wt (b1 fun _=>rfl) fun hr hu=>?_
 (conv=>arg 2; whnf)
 with_reducible exact (ai (a5 (uw (by rfl) W.T.g_HOLDERS (uv 0) (by rfl)) (ai bU) aQ))
theorem l6:al ["stretch"] ["stretch"] (ag (aF 41)):=cE
@[reducible] def l7:BS:=(bL (ni (bB (aB (bJ 1 lg) (ab (ad 0) aj))))
 cO
 a6)
def di:BF:=cq 1 l7
theorem er:W.cal "check_stretch" 3 1 di:=by
 refine bx W.d_check_stretch l6 (b1 fun _=>rfl) fun hr hu=>?_
 (conv=>arg 2; whnf)
 with_reducible exact (ai (a5 (fI (dM (uc (qJ W) hr (aa (uv 0) ae)))) (ai bU) aQ))
theorem jY:al ["tables","task","handle","number","mark"] ["tables","task","handle"] (ag (aF 42)):=cE
@[reducible] def x3:BS:=(aq (bL (bB (aB (bJ 1 fN) (ab (ad 2) aj)))
 (no 40 (fJ (bM (aS 41 (ad 0)) (ad 1))) (cA 2 (au (ah 3) (au (ah 4) cF)))
 (bL (bB (bn r9 (ad 3) (ad 2)))
 (a7 (ad 4))
 a6))
 a6)
 (a7 (bC .non)))
def l8:BF:=cq 5 x3
theorem pH:W.cal "mark_at" 2 3 l8:=by
 refine bx W.d_mark_at jY (b3 fun _ _ _=>rfl) fun hr hu=>?_
 (conv=>arg 2; whnf)
 with_reducible exact (af (a5 (dM (uc (f9 W) hr (aa (uv 2) ae))) (ai (gj 40 PassesOwn.never (by rfl) (dR (dF (aV hu (c4 W.G (uv 0)) (uv 1) (by trivial)))) (b9 (n:=2) (by rfl) (ao (ug 3 jY.nd) (ao (ug 4 jY.nd) bo))) (ai (a5 (bv dG cG (uv 3) (uv 2) (by trivial)) (ai (aE (uv 4))) aQ)))) aQ)
   (ai (aE iO)))
theorem pI:al ["tables","task","handle","mark"] ["tables","task","handle"] (ag (aF 43)):=cE
@[reducible] def x4:BS:=(aq (aK (aB (bJ 2 dW) (ab (ad 0) (ab (ad 1) aj))))
 (aq (aZ (aB (bJ 3 l8) (ab (ad 0) (ab (ad 1) (ab (ad 2) aj)))) (ah 3))
 (aq (bL (bB (gH (ad 3)))
 cO
 a6)
 (a7 (ad 3)))))
def l9:BF:=cq 4 x4
theorem pJ:W.cal "mark_of" 4 3 l9:=by
 refine bx W.d_mark_of pI (b3 fun _ _ _=>rfl) fun hr hu=>?_
 (conv=>arg 2; whnf)
 with_reducible exact (af (ar (uc (eJ W) hr (aa (uv 0) (aa (uv 1) ae))))
   (af (ua 3 pI.nd (uc (pH W) hr (aa (uv 0) (aa (uv 1) (aa (uv 2) ae)))))
   (af (a5 (ee (cV (cU (uv 3)))) (ai bU) aQ)
   (ai (aE (uv 3))))))
theorem qV:al ["tables","task","handle"] ["tables","task","handle"] (ag (aF 44)):=cE
@[reducible] def qW:BS:=(aq (aK (aB (bJ 2 gp) (ab (ad 0) (ab (ad 1) aj))))
 (a7 (aB (bJ 3 l9) (ab (ad 0) (ab (ad 1) (ab (ad 2) aj))))))
def hZ:BF:=cq 3 qW
theorem jy:W.cal "awake_mark" 5 3 hZ:=by
 refine bx W.d_awake_mark qV (b3 fun _ _ _=>rfl) fun hr hu=>?_
 (conv=>arg 2; whnf)
 with_reducible exact (af (ar (uc (iW W) hr (aa (uv 0) (aa (uv 1) ae))))
   (ai (aE (uc (pJ W) hr (aa (uv 0) (aa (uv 1) (aa (uv 2) ae)))))))
theorem uG:al ["table","number"] ["table","number"] (ag (aF 46)):=cE
@[reducible] def uH:BS:=(aq (bL (ni (bB (aB (bJ 2 pE) (ab (ad 0) (ab (ad 1) aj)))))
 cO
 a6)
 (a7 (bM (ad 0) (ad 1))))
def iY:BF:=cq 2 uH
theorem lj:W.cal "ask_entry" 3 2 iY:=by
 refine bx W.d_ask_entry uG (b2 fun _ _=>rfl) fun hr hu=>?_
 (conv=>arg 2; whnf)
 with_reducible exact (af (a5 (fI (dM (uc (sR W) hr (aa (uv 0) (aa (uv 1) ae))))) (ai bU) aQ)
   (ai (aE (aV hu (uv 0) (uv 1) (by trivial)))))
theorem cN:al ["row","first","end","kind","by","number"] ["row"] (ag (aF 48)):=cE
@[reducible] def qX:BS:=(aq (aZ (ad 0) (cA 5 (au (ah 1) (au (ah 2) (au (ah 3) (au (ah 4) (au (ah 5) cF)))))))
 (a7 (bD (ab (ad 1) (ab (gH (ad 2)) (ab (Ce (bB (gH (ad 2))) (bI 0) (ad 2)) (ab (ad 3) (ab (ad 4) (ab (ad 5) aj)))))))))
def h8:BF:=cq 6 qX
theorem jz:W.cal "lock_order" 1 1 h8:=by
 refine bx W.d_lock_order cN (b1 fun _=>rfl) fun hr hu=>?_
 (conv=>arg 2; whnf)
 with_reducible exact (af (dQ (dl (uv 0) (b9 (n:=5) (by rfl) (ao (ug 1 cN.nd) (ao (ug 2 cN.nd) (ao (ug 3 cN.nd) (ao (ug 4 cN.nd) (ao (ug 5 cN.nd) bo))))))))
   (ai (aE (aJ (aa (uv 1) (aa (tX (oh (cU (uv 2)))) (aa (de (ee (cV (cU (uv 2)))) ap (uv 2)) (aa (uv 3) (aa (uv 4) (aa (uv 5) ae))))))))))
theorem dX:al ["tables","file","rows","holder","shared","alone"] ["tables","file"] (ag (aF 49)):=cE
abbrev jZ:Scope:=uz [("stretch",.local),("holder",.free)]
theorem iZ:aW (ag (aF 49)) ["tables","file","rows","holder","shared","alone"] jZ ["stretch","holder"] [none,some 3]:=uA
abbrev j0:Scope:=uz [("stretch",.local),("holder",.free)]
theorem i0:aW (ag (aF 49)) ["tables","file","rows","holder","shared","alone"] j0 ["stretch","holder"] [none,some 3]:=uA
@[reducible] def uI:BS:=(aq (aZ (fE aj) (ah 2))
 (aq (CZ 40 false (bM (aS 38 (ad 0)) (ad 1)) (cA 2 (au (ah 3) (au (cA 2 (au (ah 4) (au (ah 5) cF))) cF)))
 (aq (aK (Ag jd (ad 2) (ab (vU 40 [none,some 3] (fJ (ad 4)) (ah 0) kX (bn iS (bn iS (ad 0) (bD (ab (bC (.str 63)) aj))) (ad 1))) aj)))
 (aK (Ag jd (ad 2) (ab (vU 40 [none,some 3] (fJ (ad 5)) (ah 0) kX (bn iS (bn iS (ad 0) (bD (ab (bC (.str 2)) aj))) (ad 1))) aj)))))
 (a7 (ad 2))))
def mO:BF:=cq 6 uI
theorem uJ:W.cal "lock_rows" 1 2 mO:=by
 refine bx W.d_lock_rows dX (b2 fun _ _=>rfl) fun hr hu=>?_
 (conv=>arg 2; whnf)
 with_reducible exact (af (ua 2 dX.nd (cp ae))
   (af (zh 40 PassesOwn.never (by rfl) (aV hu (f8 W.G (uv 0)) (uv 1) (by trivial)) (b9 (n:=2) (by rfl) (ao (ug 3 dX.nd) (ao (b9 (n:=2) (by rfl) (ao (ug 4 dX.nd) (ao (ug 5 dX.nd) bo))) bo))) (af (ar (iT hE (iJ PySem.F.plainAttrs_list PySem.F.slot_list_extend PySem.F.type_list_extend (by with_unfolding_all exact jc) (uv 2) (aa (gN 40 (by decide) (gz (by rfl) (by with_unfolding_all exact iZ) (dR (dF (uv 4))) (fun _ _ _ _ _=>(ug 0 iZ.nd)) (fun _ _ _ _ _=>cB) (fun _ _ _ _ _=>(bP dI dP (bP dI dP (uv 0) (aJ (aa (aP 63) ae))) (uv 1))))) ae))))
   (ai (ar (iT hE (iJ PySem.F.plainAttrs_list PySem.F.slot_list_extend PySem.F.type_list_extend (by with_unfolding_all exact jc) (uv 2) (aa (gN 40 (by decide) (gz (by rfl) (by with_unfolding_all exact i0) (dR (dF (uv 5))) (fun _ _ _ _ _=>(ug 0 i0.nd)) (fun _ _ _ _ _=>cB) (fun _ _ _ _ _=>(bP dI dP (bP dI dP (uv 0) (aJ (aa (aP 2) ae))) (uv 1))))) ae)))))))
   (ai (aE (uv 2)))))
theorem qY:al ["tables","file"] ["tables","file"] (ag (aF 50)):=cE
@[reducible] def qZ:BS:=(a7 (iR eg (ab (n8 h8 (aB (bJ 2 mO) (ab (ad 0) (ab (ad 1) aj)))) aj)))
def ll:BF:=cq 2 qZ
theorem rc:W.cal "told_locks" 4 2 ll:=by
 refine bx W.d_told_locks qY (b2 fun _ _=>rfl) fun hr hu=>?_
 (conv=>arg 2; whnf)
 with_reducible exact (ai (aE (bY bS cz (by rfl) W.M.tuple bH (aa (sF (jz W) (by rfl) (hr.mono (by decide)) W.M.sorted (uc (uJ W) hr (aa (uv 0) (aa (uv 1) ae)))) ae))))
theorem uK:al ["tables"] ["tables"] (ag (aF 52)):=cE
abbrev j4:Scope:=uz [("number",.local),("tables",.free)]
theorem i4:aW (ag (aF 52)) ["tables"] j4 ["number","tables"] [none,some 0]:=uA
@[reducible] def uL:BS:=(a7 (iR eg (ab (vU 40 [none,some 0] (jt (iR hU (ab (aS 73 (ad 0)) aj))) (ah 0) kX (bM (aS 73 (ad 1)) (ad 0))) aj)))
def mP:BF:=cq 1 uL
theorem uM:W.cal "told_asks" 1 1 mP:=by
 refine bx W.d_told_asks uK (b1 fun _=>rfl) fun hr hu=>?_
 (conv=>arg 2; whnf)
 with_reducible exact (ai (aE (bY bS cz (by rfl) W.M.tuple bH (aa (gN 40 (by decide) (gz (by rfl) (by with_unfolding_all exact i4) (hJ (fi (bN (eO (by rfl)) fM (by rfl) W.M.sorted cw (aa (bi W.G (uv 0)) ae)))) (fun _ _ _ _ _=>(ug 0 i4.nd)) (fun _ _ _ _ _=>cB) (fun _ _ _ _ _=>(aV hu (bi W.G (uv 1)) (uv 0) (by trivial))))) ae))))
theorem sS:al ["tables","task","mark","kind","stretch","by","holder"] ["tables","task","mark","kind","stretch","by"] (ag (aF 53)):=cE
@[reducible] def AZ:BS:=(aq (aZ (Ce (bB (bn r9 (ad 5) (bC (.str 66)))) (ad 1) (ad 2)) (ah 6))
 (a7 (bD (ab (bM (aS 35 (ad 0)) (bC (.str 3))) (ab (ad 1) (ab (bn eU (bM (aS 54 (ad 0)) (ad 2)) (bI 0)) (ab (ad 3) (ab (ad 4) (ab (ad 5) (ab (ad 6) aj))))))))))
def pK:BF:=cq 7 AZ
theorem sU:W.cal "ask_of" 1 6 pK:=by
 refine bx W.d_ask_of sS (b6 fun _ _ _ _ _ _=>rfl) fun hr hu=>?_
 (conv=>arg 2; whnf)
 with_reducible exact (af (ua 6 sS.nd (de (bv dG cG (uv 5) (aP 66) (by trivial)) (uv 1) (uv 2)))
   (ai (aE (aJ (aa (aV hu (o9 W.G (uv 0)) (aP 3) (by trivial)) (aa (uv 1) (aa (a8 (aV hu (cC W.G (uv 0)) (uv 2) (by trivial)) ap (by trivial)) (aa (uv 3) (aa (uv 4) (aa (uv 5) (aa (uv 6) ae)))))))))))
theorem DM:al ["kind","other"] ["kind","other"] (ag (aF 54)):=cE
@[reducible] def DN:BS:=(a7 (bn (Iy false) (bC (.str 2)) (bD (ab (ad 0) (ab (ad 1) aj)))))
def uN:BF:=cq 2 DN
theorem wv:W.cal "clash" 1 2 uN:=by
 refine bx W.d_clash DM (b2 fun _ _=>rfl) fun hr hu=>?_
 (conv=>arg 2; whnf)
 with_reducible exact (ai (aE (fG BW t6 (aP 2) (aJ (aa (uv 0) (aa (uv 1) ae))) (by rfl))))
theorem aH:al ["tables","ask","number","task","file","kind","stretch","by","holder","rows","other","shared","alone","other_kind","lot"] ["tables","ask"] (ag (aF 55)):=cE
abbrev fq:Scope:=uz [("part",.local),("meets",.globalImplicit),("other",.free),("other_kind",.free),("stretch",.free)]
theorem dC:aW (ag (aF 55)) ["tables","ask","number","task","file","kind","stretch","by","holder","rows","other","shared","alone","other_kind","lot"] fq ["part","other_kind","other","stretch"] [none,some 13,some 10,some 6]:=uA
@[reducible] def iB:BS:=(aq (aZ (ad 1) (cA 7 (au (ah 2) (au (ah 3) (au (ah 4) (au (ah 5) (au (ah 6) (au (ah 7) (au (ah 8) cF)))))))))
 (aq (aZ (fE aj) (ah 9))
 (aq (CZ 40 false (bM (aS 38 (ad 0)) (ad 4)) (cA 2 (au (ah 10) (au (cA 2 (au (ah 11) (au (ah 12) cF))) cF)))
 (bL (bB (bn (Af true) (ad 10) (bD (ab (ad 7) (ab (ad 8) aj)))))
 (no 40 (fJ (bD (ab (bD (ab (bC (.str 63)) (ab (ad 11) aj))) (ab (bD (ab (bC (.str 2)) (ab (ad 12) aj))) aj)))) (cA 2 (au (ah 13) (au (ah 14) cF)))
 (bL (bB (aB (bJ 2 uN) (ab (ad 5) (ab (ad 13) aj))))
 (aK (Ag jd (ad 9) (ab (vU 40 [none,some 13,some 10,some 6] (fJ (ad 14)) (ah 0) (bB (aB (bJ 2 n9) (ab (ad 0) (ab (ad 3) aj)))) (bn iS (bn iS (ad 0) (bD (ab (ad 1) aj))) (ad 2))) aj)))
 a6))
 a6))
 (a7 (n8 h8 (ad 9))))))
def eT:BF:=cq 15 iB
theorem iC:W.cal "blocking_stretches" 4 2 eT:=by
 refine bx W.d_blocking_stretches aH (b2 fun _ _=>rfl) fun hr hu=>?_
 (conv=>arg 2; whnf)
 with_reducible exact (af (dQ (dl (uv 1) (b9 (n:=7) (by rfl) (ao (ug 2 aH.nd) (ao (ug 3 aH.nd) (ao (ug 4 aH.nd) (ao (ug 5 aH.nd) (ao (ug 6 aH.nd) (ao (ug 7 aH.nd) (ao (ug 8 aH.nd) bo))))))))))
   (af (ua 9 aH.nd (cp ae))
   (af (zh 40 PassesOwn.never (by rfl) (aV hu (f8 W.G (uv 0)) (uv 4) (by trivial)) (b9 (n:=2) (by rfl) (ao (ug 10 aH.nd) (ao (b9 (n:=2) (by rfl) (ao (ug 11 aH.nd) (ao (ug 12 aH.nd) bo))) bo))) (ai (a5 (bv (xi (EG hr)) nY (uv 10) (aJ (aa (uv 7) (aa (uv 8) ae))) (by trivial)) (ai (gj 40 PassesOwn.never (by rfl) (dR (dF (aJ (aa (aJ (aa (aP 63) (aa (uv 11) ae))) (aa (aJ (aa (aP 2) (aa (uv 12) ae))) ae))))) (b9 (n:=2) (by rfl) (ao (ug 13 aH.nd) (ao (ug 14 aH.nd) bo))) (ai (a5 (dM (uc (wv W) hr (aa (uv 5) (aa (uv 13) ae)))) (ai (ar (iT hE (iJ PySem.F.plainAttrs_list PySem.F.slot_list_extend PySem.F.type_list_extend (by with_unfolding_all exact jc) (uv 9) (aa (gN 40 (by decide) (gz (by rfl) (by with_unfolding_all exact dC) (dR (dF (uv 14))) (fun _ _ _ _ _=>(ug 0 dC.nd)) (fun _ _ _ _ _=>(gM (dM (uc (pq W) hr (aa (uv 0) (aa (uv 3) ae)))))) (fun _ _ _ _ _=>(bP dI dP (bP dI dP (uv 0) (aJ (aa (uv 1) ae))) (uv 2))))) ae))))) aQ)))) aQ)))
   (ai (aE (sF (jz W) (by rfl) (hr.mono (by decide)) W.M.sorted (uv 9)))))))
theorem a9:al ["tables","ask","number","task","file","kind","stretch","by","holder"] ["tables","ask"] (ag (aF 56)):=cE
@[reducible] def j5:BS:=(aq (aZ (ad 1) (cA 7 (au (ah 2) (au (ah 3) (au (ah 4) (au (ah 5) (au (ah 6) (au (ah 7) (au (ah 8) cF)))))))))
 cO)
def ge:BF:=cq 9 j5
theorem j6:W.cal "blocking_wholes" 1 2 ge:=by
 refine bx W.d_blocking_wholes a9 (b2 fun _ _=>rfl) fun hr hu=>?_
 (conv=>arg 2; whnf)
 with_reducible exact (af (dQ (dl (uv 1) (b9 (n:=7) (by rfl) (ao (ug 2 a9.nd) (ao (ug 3 a9.nd) (ao (ug 4 a9.nd) (ao (ug 5 a9.nd) (ao (ug 6 a9.nd) (ao (ug 7 a9.nd) (ao (ug 8 a9.nd) bo))))))))))
   (ai bU))
theorem ln:al ["tables","ask"] ["tables","ask"] (ag (aF 57)):=cE
@[reducible] def lq:BS:=(aq (bL (bB (gH (bn eU (ad 1) (bI 4))))
 (a7 (aB (bJ 2 ge) (ab (ad 0) (ab (ad 1) aj))))
 a6)
 (a7 (aB (bJ 2 eT) (ab (ad 0) (ab (ad 1) aj)))))
def cD:BF:=cq 2 lq
theorem cQ:W.cal "blocking_locks" 5 2 cD:=by
 refine bx W.d_blocking_locks ln (b2 fun _ _=>rfl) fun hr hu=>?_
 (conv=>arg 2; whnf)
 with_reducible exact (af (a5 (ee (cV (cU (a8 (uv 1) ap (by trivial))))) (ai (aE (uc (j6 W) hr (aa (uv 0) (aa (uv 1) ae))))) aQ)
   (ai (aE (uc (iC W) hr (aa (uv 0) (aa (uv 1) ae))))))
theorem jn:al ["one","other"] ["one","other"] (ag (aF 58)):=cE
@[reducible] def jo:BS:=(aq (bL (D9 (bB (bn Ga (bn eU (ad 0) (bI 2)) (bn eU (ad 1) (bI 2)))) (D9 (bB (bn (Af false) (HI 5 (ad 0)) (HI 5 (ad 1)))) (ni (bB (aB (bJ 2 uN) (ab (bn eU (ad 0) (bI 3)) (ab (bn eU (ad 1) (bI 3)) aj)))))))
 (a7 (bC (.bl false)))
 a6)
 (aq (bL (D9 (bB (gH (bn eU (ad 0) (bI 4)))) (bB (gH (bn eU (ad 1) (bI 4)))))
 (a7 (bn r9 (bn eU (ad 0) (bI 4)) (bn eU (ad 1) (bI 4))))
 a6)
 (a7 (aB (bJ 2 n9) (ab (bn eU (ad 0) (bI 4)) (ab (bn eU (ad 1) (bI 4)) aj))))))
def fP:BF:=cq 2 jo
theorem jp:W.cal "asks_are_against" 3 2 fP:=by
 refine bx W.d_asks_are_against jn (b2 fun _ _=>rfl) fun hr hu=>?_
 (conv=>arg 2; whnf)
 with_reducible exact (af (a5 (PW.pt (mG (bv oj jP (a8 (uv 0) ap (by trivial)) (a8 (uv 1) ap (by trivial)) (by trivial)) (mG (bv (G8 (EG hr)) nY (CP 5 (vp yI (uv 0) (yu cT) yt)) (CP 5 (vp yI (uv 1) (yu cT) yt)) (by trivial)) (jN (fI (dM (uc (wv W) hr (aa (a8 (uv 0) ap (by trivial)) (aa (a8 (uv 1) ap (by trivial)) ae))))))))) (ai (aE fF)) aQ)
   (af (a5 (PW.pt (mG (ee (cV (cU (a8 (uv 0) ap (by trivial))))) (jN (ee (cV (cU (a8 (uv 1) ap (by trivial)))))))) (ai (aE (fG dG cG (a8 (uv 0) ap (by trivial)) (a8 (uv 1) ap (by trivial)) (by trivial)))) aQ)
   (ai (aE (uc (pq W) hr (aa (a8 (uv 0) ap (by trivial)) (aa (a8 (uv 1) ap (by trivial)) ae)))))))
theorem gQ:al ["tables","ask","elder"] ["tables","ask"] (ag (aF 59)):=cE
abbrev h9:Scope:=uz [("number",.local),("other",.local),("ask",.free)]
theorem dv:aW (ag (aF 59)) ["tables","ask","elder"] h9 ["number","other","ask"] [none,none,some 1]:=uA
abbrev ib:Scope:=uz [("other",.local),("asks_are_against",.globalImplicit),("ask",.free)]
theorem fQ:aW (ag (aF 59)) ["tables","ask","elder"] ib ["other","ask"] [none,some 1]:=uA
@[reducible] def ma:BS:=(aq (bL (ni (gL (aS 29 (ad 0))))
 (a7 (fE aj))
 a6)
 (aq (aZ (HL 40 false [none,none,some 1] (aS 73 (ad 0)) (cA 2 (au (ah 0) (au (ah 1) cF))) (bB (bn F8 (ad 0) (bn eU (ad 2) (bI 0)))) (ad 1)) (ah 2))
 (a7 (iR hU (ab (vU 40 [none,some 1] (jt (ad 2)) (ah 0) (bB (aB (bJ 2 fP) (ab (ad 0) (ab (ad 1) aj)))) (bn eU (ad 0) (bI 0))) aj)))))
def cM:BF:=cq 3 ma
theorem c8:W.cal "blocking_asks" 4 2 cM:=by
 refine bx W.d_blocking_asks gQ (b2 fun _ _=>rfl) fun hr hu=>?_
 (conv=>arg 2; whnf)
 with_reducible exact (af (a5 (fI (cH (ca (Fw W.G (uv 0))))) (ai (aE (cp ae))) aQ)
   (af (AA 40 2 (by decide) (vA (by rfl) gQ.nd (by rfl) (by rfl) (by with_unfolding_all exact dv) (v4 (bi W.G (uv 0))) (fun _ _ _ _ _=>(b9 (n:=2) (by rfl) (ao (ug 0 dv.nd) (ao (ug 1 dv.nd) bo)))) (fun _ _ _ _ _=>(gM (bv om jO (uv 0) (a8 (uv 2) ap (by trivial)) (by trivial)))) (fun _ _ _ _ _=>(uv 1))))
   (ai (aE (bN (eO (by rfl)) fM (by rfl) W.M.sorted cw (aa (gN 40 (by decide) (gz (by rfl) (by with_unfolding_all exact fQ) (hJ (fi (uv 2))) (fun _ _ _ _ _=>(ug 0 fQ.nd)) (fun _ _ _ _ _=>(gM (dM (uc (jp W) hr (aa (uv 0) (aa (uv 1) ae)))))) (fun _ _ _ _ _=>(a8 (uv 0) ap (by trivial))))) ae))))))
theorem rf:al ["tables","ask"] ["tables","ask"] (ag (aF 60)):=cE
@[reducible] def rg:BS:=(a7 (iR CN (ab (Jv (aB (bJ 2 cD) (ab (ad 0) (ab (ad 1) aj))) (aB (bJ 2 cM) (ab (ad 0) (ab (ad 1) aj)))) aj)))
def lr:BF:=cq 2 rg
theorem rh:W.cal "is_blocked" 6 2 lr:=by
 refine bx W.d_is_blocked rf (b2 fun _ _=>rfl) fun hr hu=>?_
 (conv=>arg 2; whnf)
 with_reducible exact (ai (aE (bY xC CO (by rfl) W.M.bool oI (aa (HG (uc (cQ W) hr (aa (uv 0) (aa (uv 1) ae))) (g6 (uc (c8 W) hr (aa (uv 0) (aa (uv 1) ae))))) ae))))
theorem et:al ["tables","ask","rows","elder"] ["tables","ask"] (ag (aF 61)):=cE
@[reducible] def md:BS:=(aq (aZ (aB (bJ 2 cD) (ab (ad 0) (ab (ad 1) aj))) (ah 2))
 (aq (bL (gL (ad 2))
 (a7 (bn eU (ad 2) (bI 0)))
 a6)
 (aq (aZ (aB (bJ 2 cM) (ab (ad 0) (ab (ad 1) aj))) (ah 3))
 (a7 (Ce (gL (ad 3)) (bM (aS 73 (ad 0)) (bn eU (ad 3) (bI 0))) (bC .non))))))
def fc:BF:=cq 4 md
theorem gR:W.cal "first_blocker" 6 2 fc:=by
 refine bx W.d_first_blocker et (b2 fun _ _=>rfl) fun hr hu=>?_
 (conv=>arg 2; whnf)
 with_reducible exact (af (ua 2 et.nd (uc (cQ W) hr (aa (uv 0) (aa (uv 1) ae))))
   (af (a5 (cH (ca (uv 2))) (ai (aE (a8 (uv 2) ap (by trivial)))) aQ)
   (af (ua 3 et.nd (uc (c8 W) hr (aa (uv 0) (aa (uv 1) ae))))
   (ai (aE (de (cH (ca (uv 3))) (aV hu (bi W.G (uv 0)) (a8 (uv 3) ap (by trivial)) (by trivial)) iO))))))
theorem uO:al ["tables","file","holder","shared","alone"] ["tables","file","holder","shared","alone"] (ag (aF 62)):=cE
@[reducible] def uP:BS:=(bL (D9 (gL (ad 3)) (gL (ad 4)))
 (aK (bh 0 4 [] bg (ad 0) (ab (bM (aS 38 (ad 0)) (ad 1)) (ab (ad 2) (ab (bD (ab (ad 3) (ab (ad 4) aj))) aj)))))
 (aK (bh 0 3 [] bR (ad 0) (ab (bM (aS 38 (ad 0)) (ad 1)) (ab (ad 2) aj)))))
def i5:BF:=cq 5 uP
theorem lu:W.cal "keep_lots" 2 5 i5:=by
 refine bx W.d_keep_lots uO (b5 fun _ _ _ _ _=>rfl) fun hr hu=>?_
 (conv=>arg 2; whnf)
 with_reducible exact (ai (a5 (PW.pt (mG (cH (ca (uv 3))) (jN (cH (ca (uv 4)))))) (ai (ar (um (bq W) W.G.c0 hr (uv 0) (aa (aV hu (f8 W.G (uv 0)) (uv 1) (by trivial)) (aa (uv 2) (aa (aJ (aa (uv 3) (aa (uv 4) ae))) ae)))))) (ai (ar (um (cb W) W.G.c0 hr (uv 0) (aa (aV hu (f8 W.G (uv 0)) (uv 1) (by trivial)) (aa (uv 2) ae)))))))
theorem gq:al ["tables","file","holder","stretch","shared","alone"] ["tables","file","holder","stretch"] (ag (aF 63)):=cE
@[reducible] def rj:BS:=(aq (aZ (Cn (bM (aS 38 (ad 0)) (ad 1)) (ad 2) (bD (ab (bD aj) (ab (bD aj) aj)))) (cA 2 (au (ah 4) (au (ah 5) cF))))
 (aK (aB (bJ 5 i5) (ab (ad 0) (ab (ad 1) (ab (ad 2) (ab (aB (bJ 2 l5) (ab (ad 4) (ab (bD (ab (ad 3) aj)) aj))) (ab (aB (bJ 2 l5) (ab (ad 5) (ab (bD (ab (ad 3) aj)) aj))) aj))))))))
def ic:BF:=cq 6 rj
theorem jA:W.cal "free_cells" 5 4 ic:=by
 refine bx W.d_free_cells gq (b4 fun _ _ _ _=>rfl) fun hr hu=>?_
 (conv=>arg 2; whnf)
 with_reducible exact (af (dQ (dl (yY hu (aV hu (f8 W.G (uv 0)) (uv 1) (by trivial)) (uv 2) (aJ (aa (aJ ae) (aa (aJ ae) ae))) (by trivial)) (b9 (n:=2) (by rfl) (ao (ug 4 gq.nd) (ao (ug 5 gq.nd) bo)))))
   (ai (ar (uc (lu W) hr (aa (uv 0) (aa (uv 1) (aa (uv 2) (aa (uc (pz W) hr (aa (uv 4) (aa (aJ (aa (uv 3) ae)) ae))) (aa (uc (pz W) hr (aa (uv 5) (aa (aJ (aa (uv 3) ae)) ae))) ae)))))))))
theorem dj:al ["tables","ask","number","task","file","kind","stretch","by","holder","shared","alone"] ["tables","ask"] (ag (aF 64)):=cE
@[reducible] def FC:BS:=(aq (aZ (ad 1) (cA 7 (au (ah 2) (au (ah 3) (au (ah 4) (au (ah 5) (au (ah 6) (au (ah 7) (au (ah 8) cF)))))))))
 (aq (bL (bB (gH (ad 6)))
 (aq cO
 Ch)
 a6)
 (aq (aK (aB (bJ 4 ic) (ab (ad 0) (ab (ad 4) (ab (bD (ab (ad 7) (ab (ad 8) aj))) (ab (ad 6) aj))))))
 (aq (aZ (Cn (bM (aS 38 (ad 0)) (ad 4)) (bD (ab (ad 7) (ab (ad 8) aj))) (bD (ab (bD aj) (ab (bD aj) aj)))) (cA 2 (au (ah 9) (au (ah 10) cF))))
 (aq (bL (bB (bn r9 (ad 5) (bC (.str 63))))
 (aZ (aB (bJ 2 pA) (ab (ad 9) (ab (bD (ab (ad 6) aj)) aj))) (ah 9))
 (aZ (aB (bJ 2 pA) (ab (ad 10) (ab (bD (ab (ad 6) aj)) aj))) (ah 10)))
 (aK (aB (bJ 5 i5) (ab (ad 0) (ab (ad 4) (ab (bD (ab (ad 7) (ab (ad 8) aj))) (ab (ad 9) (ab (ad 10) aj))))))))))))
def x5:BF:=cq 11 FC
theorem zA:W.cal "take" 6 2 x5:=by
 refine bx W.d_take dj (b2 fun _ _=>rfl) fun hr hu=>?_
 (conv=>arg 2; whnf)
 with_reducible exact (af (dQ (dl (uv 1) (b9 (n:=7) (by rfl) (ao (ug 2 dj.nd) (ao (ug 3 dj.nd) (ao (ug 4 dj.nd) (ao (ug 5 dj.nd) (ao (ug 6 dj.nd) (ao (ug 7 dj.nd) (ao (ug 8 dj.nd) bo))))))))))
   (af (a5 (ee (cV (cU (uv 6)))) (af bU
   (ai yQ)) aQ)
   (af (ar (uc (jA W) hr (aa (uv 0) (aa (uv 4) (aa (aJ (aa (uv 7) (aa (uv 8) ae))) (aa (uv 6) ae))))))
   (af (dQ (dl (yY hu (aV hu (f8 W.G (uv 0)) (uv 4) (by trivial)) (aJ (aa (uv 7) (aa (uv 8) ae))) (aJ (aa (aJ ae) (aa (aJ ae) ae))) (by trivial)) (b9 (n:=2) (by rfl) (ao (ug 9 dj.nd) (ao (ug 10 dj.nd) bo)))))
   (af (a5 (bv dG cG (uv 5) (aP 63) (by trivial)) (ai (ua 9 dj.nd (uc (sQ W) hr (aa (uv 9) (aa (aJ (aa (uv 6) ae)) ae))))) (ai (ua 10 dj.nd (uc (sQ W) hr (aa (uv 10) (aa (aJ (aa (uv 6) ae)) ae))))))
   (ai (ar (uc (lu W) hr (aa (uv 0) (aa (uv 4) (aa (aJ (aa (uv 7) (aa (uv 8) ae))) (aa (uv 9) (aa (uv 10) ae)))))))))))))
end
section
variable (W:Wr P w K mg base gy)
local macro_rules | `(tactic| rfl) => `(tactic| with_unfolding_all exact rfl)
local macro_rules | `(tactic| trivial) => `(tactic| with_unfolding_all (first | exact Or.inl rfl | exact Or.inr rfl | exact jH _ | exact (fun _ _ => rfl) | exact (fun _ => rfl) | exact ⟨rfl, rfl, rfl, rfl⟩))
theorem zB:al ["tables","number","outcome","task"] ["tables","number","outcome"] (ag (aF 67)):=cE
@[reducible] def FD:BS:=(aq (aZ (bn eU (bM (aS 73 (ad 0)) (ad 1)) (bI 1)) (ah 3))
 (aq (aK (bh 0 3 [] bR (ad 0) (ab (aS 73 (ad 0)) (ab (ad 1) aj))))
 (aq (aK (bh 0 3 [] bR (ad 0) (ab (aS 5 (ad 0)) (ab (ad 3) aj))))
 (aK (bh 0 4 [] bg (ad 0) (ab (aS 56 (ad 0)) (ab (ad 1) (ab (ad 2) aj))))))))
def pL:BF:=cq 4 FD
theorem oa:W.cal "wake" 2 3 pL:=by
 refine bx W.d_wake zB (b3 fun _ _ _=>rfl) fun hr hu=>?_
 (conv=>arg 2; whnf)
 with_reducible exact (af (ua 3 zB.nd (a8 (aV hu (bi W.G (uv 0)) (uv 1) (by trivial)) ap (by trivial)))
   (af (ar (um (cb W) W.G.c0 hr (uv 0) (aa (bi W.G (uv 0)) (aa (uv 1) ae))))
   (af (ar (um (cb W) W.G.c0 hr (uv 0) (aa (dB W.G (uv 0)) (aa (uv 3) ae))))
   (ai (ar (um (bq W) W.G.c0 hr (uv 0) (aa (iU W.G (uv 0)) (aa (uv 1) (aa (uv 2) ae)))))))))
theorem cu:al ["tables","row","first","end","kind","by","number"] ["tables","row"] (ag (aF 68)):=cE
@[reducible] def nz:BS:=(aq (bL (bB (bn r9 (iR t4 (ab (ad 1) aj)) (bI 2)))
 cO
 a6)
 (aq (aZ (ad 1) (cA 5 (au (ah 2) (au (ah 3) (au (ah 4) (au (ah 5) (au (ah 6) cF)))))))
 (a7 (Ce (bB (bn r9 (ad 5) (bC (.str 66)))) (bD (ab (ad 6) aj)) (bn eU (bM (aS 54 (ad 0)) (ad 6)) (bI 2))))))
def i6:BF:=cq 7 nz
theorem nA:W.cal "tasks_behind" 1 2 i6:=by
 refine bx W.d_tasks_behind cu (b2 fun _ _=>rfl) fun hr hu=>?_
 (conv=>arg 2; whnf)
 with_reducible exact (af (a5 (bv dG cG (bN d8 g8 (by rfl) W.M.len PySem.boot_len (aa (uv 1) ae)) ap (by trivial)) (ai bU) aQ)
   (af (dQ (dl (uv 1) (b9 (n:=5) (by rfl) (ao (ug 2 cu.nd) (ao (ug 3 cu.nd) (ao (ug 4 cu.nd) (ao (ug 5 cu.nd) (ao (ug 6 cu.nd) bo))))))))
   (ai (aE (de (bv dG cG (uv 5) (aP 66) (by trivial)) (aJ (aa (uv 6) ae)) (a8 (aV hu (cC W.G (uv 0)) (uv 6) (by trivial)) ap (by trivial)))))))
theorem mQ:al ["tables","ask","needs"] ["tables","ask"] (ag (aF 69)):=cE
abbrev lw:Scope:=uz [("row",.local),("tasks_behind",.globalImplicit),("tables",.free)]
theorem jB:aW (ag (aF 69)) ["tables","ask","needs"] lw ["row","tables"] [none,some 0]:=uA
abbrev lx:Scope:=uz [("number",.local),("tables",.free)]
theorem jC:aW (ag (aF 69)) ["tables","ask","needs"] lx ["number","tables"] [none,some 0]:=uA
@[reducible] def ww:BS:=(aq (aZ (vU 40 [none,some 0] (jt (aB (bJ 2 cD) (ab (ad 0) (ab (ad 1) aj)))) (ah 0) kX (aB (bJ 2 i6) (ab (ad 1) (ab (ad 0) aj)))) (ah 2))
 (aq (aK (Ag jd (ad 2) (ab (vU 40 [none,some 0] (jt (aB (bJ 2 cM) (ab (ad 0) (ab (ad 1) aj)))) (ah 0) kX (bD (ab (bn eU (bM (aS 73 (ad 1)) (ad 0)) (bI 1)) aj))) aj)))
 (a7 (ad 2))))
def pM:BF:=cq 3 ww
theorem wx:W.cal "needs_of" 6 2 pM:=by
 refine bx W.d_needs_of mQ (b2 fun _ _=>rfl) fun hr hu=>?_
 (conv=>arg 2; whnf)
 with_reducible exact (af (CD 40 2 (by decide) (vA (by rfl) mQ.nd (by rfl) (by rfl) (by with_unfolding_all exact jB) (hJ (fi (uc (cQ W) hr (aa (uv 0) (aa (uv 1) ae))))) (fun _ _ _ _ _=>(ug 0 jB.nd)) (fun _ _ _ _ _=>cB) (fun _ _ _ _ _=>(uc (nA W) hr (aa (uv 1) (aa (uv 0) ae))))))
   (af (ar (iT hE (iJ PySem.F.plainAttrs_list PySem.F.slot_list_extend PySem.F.type_list_extend (by with_unfolding_all exact jc) (uv 2) (aa (gN 40 (by decide) (gz (by rfl) (by with_unfolding_all exact jC) (hJ (fi (uc (c8 W) hr (aa (uv 0) (aa (uv 1) ae))))) (fun _ _ _ _ _=>(ug 0 jC.nd)) (fun _ _ _ _ _=>cB) (fun _ _ _ _ _=>(aJ (aa (a8 (aV hu (bi W.G (uv 1)) (uv 0) (by trivial)) ap (by trivial)) ae))))) ae))))
   (ai (aE (uv 2)))))
theorem A0:al ["needs","free"] ["needs","free"] (ag (aF 70)):=cE
abbrev io:Scope:=uz [("tasks",.local),("any",.globalImplicit),("free",.free)]
theorem mR:aW (ag (aF 70)) ["needs","free"] io ["tasks","free"] [none,some 1]:=uA
abbrev nB:Scope:=uz [("task",.local),("free",.free)]
theorem mS:aW io ["tasks","free"] nB ["task","free"] [none,some 1]:=uA
@[reducible] def A1:BS:=(a7 (iR hO (ab (vU 40 [none,some 1] (jt (ad 0)) (ah 0) kX (iR HH (ab (vU 40 [none,some 1] (fJ (ad 0)) (ah 0) kX (vQ (ad 0) (ad 1))) aj))) aj)))
def wy:BF:=cq 2 A1
theorem A2:W.cal "can_go" 1 2 wy:=by
 refine bx W.d_can_go A0 (b2 fun _ _=>rfl) fun hr hu=>?_
 (conv=>arg 2; whnf)
 with_reducible exact (ai (aE (bN (Ao (by rfl)) E8 (by rfl) W.M.all Am (aa (gN 40 (by decide) (gz (by rfl) (by with_unfolding_all exact mR) (hJ (fi (uv 0))) (fun _ _ _ _ _=>(ug 0 mR.nd)) (fun _ _ _ _ _=>cB) (fun _ _ _ _ _=>(bN (An (by rfl)) E7 (by rfl) W.M.any Al (aa (gN 40 (by decide) (gz (by rfl) (by with_unfolding_all exact aW.re mS) (dR (dF (uv 0))) (fun _ _ _ _ _=>(ug 0 mS.nd)) (fun _ _ _ _ _=>cB) (fun _ _ _ _ _=>(Cp hu (uv 0) (uv 1) (by rfl))))) ae))))) ae))))
theorem cy:al ["tables","free","left","found","number"] ["tables"] (ag (aF 71)):=cE
abbrev jq:Scope:=uz [("task",.local),("tables",.free)]
theorem ip:aW (ag (aF 71)) ["tables","free","left","found","number"] jq ["task","tables"] [none,some 0]:=uA
abbrev jr:Scope:=uz [("number",.local),("needs_of",.globalImplicit),("tables",.free)]
theorem iq:aW (ag (aF 71)) ["tables","free","left","found","number"] jr ["number","tables"] [none,some 0]:=uA
@[reducible] def rm:BS:=(aq (aZ (HN 40 true [none,some 0] (aS 41 (ad 0)) (ah 0) (bB (nU (ad 0) (aS 5 (ad 1)))) (ad 0) (bC (.bl true))) (ah 1))
 (aq (aZ (IA 40 [none,some 0] (jt (iR hU (ab (aS 73 (ad 0)) aj))) (ah 0) kX (ad 0) (aB (bJ 2 pM) (ab (ad 1) (ab (bM (aS 73 (ad 1)) (ad 0)) aj)))) (ah 2))
 (aq (aZ (bC (.bl true)) (ah 3))
 (aq (gi 40 (gL (ad 3))
 (aq (aZ (bC (.bl false)) (ah 3))
 (no 40 (jt (iR uj (ab (ad 2) aj))) (ah 4)
 (bL (bB (aB (bJ 2 wy) (ab (bM (ad 2) (ad 4)) (ab (ad 1) aj))))
 (aq (Co (ad 1) (bn eU (bM (aS 73 (ad 0)) (ad 4)) (bI 1)) (bC (.bl true)))
 (aq (Dt (ad 2) (ad 4))
 (aZ (bC (.bl true)) (ah 3))))
 a6))))
 (a7 (iR uj (ab (ad 2) aj)))))))
def ft:BF:=cq 5 rm
theorem gr:W.cal "stuck_asks" 7 1 ft:=by
 refine bx W.d_stuck_asks cy (b1 fun _=>rfl) fun hr hu=>?_
 (conv=>arg 2; whnf)
 with_reducible exact (af (AC 40 1 (by decide) (v8 (by rfl) cy.nd (by rfl) (by rfl) (by with_unfolding_all exact ip) (Fc (c4 W.G (uv 0))) (fun _ _ _ _ _=>(ug 0 ip.nd)) (fun _ _ _ _ _=>(gM (sg hu (uv 0) (dB W.G (uv 1)) (by rfl)))) (fun _ _ _ _ _=>(uv 0)) (fun _ _ _ _ _=>fF)))
   (af (Db 40 2 (by decide) (v8 (by rfl) cy.nd (by rfl) (by rfl) (by with_unfolding_all exact iq) (hJ (fi (bN (eO (by rfl)) fM (by rfl) W.M.sorted cw (aa (bi W.G (uv 0)) ae)))) (fun _ _ _ _ _=>(ug 0 iq.nd)) (fun _ _ _ _ _=>cB) (fun _ _ _ _ _=>(uv 0)) (fun _ _ _ _ _=>(uc (wx W) hr (aa (uv 1) (aa (aV hu (bi W.G (uv 1)) (uv 0) (by trivial)) ae))))))
   (af (ua 3 cy.nd fF)
   (af (kW 40 PassesOwn.never (cH (ca (uv 3))) (af (ua 3 cy.nd fF)
   (ai (gj 40 PassesOwn.never (by rfl) (hJ (fi (bY (o6 (by rfl)) sC (by rfl) W.M.list oH (aa (uv 2) ae)))) (ug 4 cy.nd) (ai (a5 (dM (uc (A2 W) hr (aa (aV hu (uv 2) (uv 4) (by trivial)) (aa (uv 1) ae)))) (af (yZ hu (uv 1) (a8 (aV hu (bi W.G (uv 0)) (uv 4) (by trivial)) ap (by trivial)) fF (by rfl))
   (af (zp hu (uv 2) (uv 4))
   (ai (ua 3 cy.nd fF)))) aQ))))))
   (ai (aE (bY (o6 (by rfl)) sC (by rfl) W.M.list oH (aa (uv 2) ae))))))))
theorem i7:al ["tables","ask","number"] ["tables","ask"] (ag (aF 66)):=cE
@[reducible] def pN:BS:=(aq (aZ (bh 0 2 [] dU (ad 0) (ab (bC (.str 3)) aj)) (ah 2))
 (aq (aK (bh 0 4 [] bg (ad 0) (ab (aS 73 (ad 0)) (ab (ad 2) (ab (ad 1) aj)))))
 (aq (aK (bh 0 4 [] bg (ad 0) (ab (aS 5 (ad 0)) (ab (bn eU (ad 1) (bI 1)) (ab (ad 2) aj)))))
 (aq (aK (bh 0 4 [] bg (ad 0) (ab (aS 56 (ad 0)) (ab (ad 2) (ab (bC (.str 74)) aj)))))
 (aq (bL (bB (bn (Iy false) (ad 2) (aB (bJ 1 ft) (ab (ad 0) aj))))
 cO
 a6)
 (a7 (ad 2)))))))
def jD:BF:=cq 3 pN
theorem pO:W.cal "fall_asleep" 8 2 jD:=by
 refine bx W.d_fall_asleep i7 (b2 fun _ _=>rfl) fun hr hu=>?_
 (conv=>arg 2; whnf)
 with_reducible exact (af (ua 2 i7.nd (um (fO W) W.G.c0 hr (uv 0) (aa (aP 3) ae)))
   (af (ar (um (bq W) W.G.c0 hr (uv 0) (aa (bi W.G (uv 0)) (aa (uv 2) (aa (uv 1) ae)))))
   (af (ar (um (bq W) W.G.c0 hr (uv 0) (aa (dB W.G (uv 0)) (aa (a8 (uv 1) ap (by trivial)) (aa (uv 2) ae)))))
   (af (ar (um (bq W) W.G.c0 hr (uv 0) (aa (iU W.G (uv 0)) (aa (uv 2) (aa (aP 74) ae)))))
   (af (a5 (bv BW t6 (uv 2) (uc (gr W) hr (aa (uv 0) ae)) (by rfl)) (ai bU) aQ)
   (ai (aE (uv 2))))))))
theorem ez:al ["tables","stuck"] ["tables"] (ag (aF 72)):=cE
@[reducible] def mf:BS:=(aq (aZ (aB (bJ 1 ft) (ab (ad 0) aj)) (ah 1))
 (gi 40 (gL (ad 1))
 (aq (aK (aB (bJ 3 pL) (ab (ad 0) (ab (bn eU (ad 1) (Ap (bI 1))) (ab (bC (.str 64)) aj)))))
 (aZ (aB (bJ 1 ft) (ab (ad 0) aj)) (ah 1)))))
def ir:BF:=cq 2 mf
theorem mh:W.cal "give_up_stuck" 8 1 ir:=by
 refine bx W.d_give_up_stuck ez (b1 fun _=>rfl) fun hr hu=>?_
 (conv=>arg 2; whnf)
 with_reducible exact (af (ua 1 ez.nd (uc (gr W) hr (aa (uv 0) ae)))
   (ai (kW 40 PassesOwn.never (cH (ca (uv 1))) (af (ar (uc (oa W) hr (aa (uv 0) (aa (a8 (uv 1) (oU ap) (by trivial)) (aa (aP 64) ae)))))
   (ai (ua 1 ez.nd (uc (gr W) hr (aa (uv 0) ae))))))))
theorem fR:al ["tables","number"] ["tables"] (ag (aF 73)):=cE
@[reducible] def j7:BS:=(aq (no 40 (jt (iR hU (ab (aS 73 (ad 0)) aj))) (ah 1)
 (bL (ni (bB (aB (bJ 2 lr) (ab (ad 0) (ab (bM (aS 73 (ad 0)) (ad 1)) aj)))))
 (a7 (ad 1))
 a6))
 (a7 (bC .non)))
def dY:BF:=cq 2 j7
theorem fS:W.cal "first_unblocked" 7 1 dY:=by
 refine bx W.d_first_unblocked fR (b1 fun _=>rfl) fun hr hu=>?_
 (conv=>arg 2; whnf)
 with_reducible exact (af (gj 40 PassesOwn.never (by rfl) (hJ (fi (bN (eO (by rfl)) fM (by rfl) W.M.sorted cw (aa (bi W.G (uv 0)) ae)))) (ug 1 fR.nd) (ai (a5 (fI (dM (uc (rh W) hr (aa (uv 0) (aa (aV hu (bi W.G (uv 0)) (uv 1) (by trivial)) ae))))) (ai (aE (uv 1))) aQ)))
   (ai (aE iO)))
theorem pP:al ["tables","number"] ["tables"] (ag (aF 74)):=cE
@[reducible] def DO:BS:=(aq (aZ (aB (bJ 1 dY) (ab (ad 0) aj)) (ah 1))
 (gi 40 (bB (yR (ad 1)))
 (aq (aK (aB (bJ 2 x5) (ab (ad 0) (ab (bM (aS 73 (ad 0)) (ad 1)) aj))))
 (aq (aK (aB (bJ 3 pL) (ab (ad 0) (ab (ad 1) (ab (bC (.str 36)) aj)))))
 (aZ (aB (bJ 1 dY) (ab (ad 0) aj)) (ah 1))))))
def zC:BF:=cq 2 DO
theorem DP:W.cal "grant" 8 1 zC:=by
 refine bx W.d_grant pP (b1 fun _=>rfl) fun hr hu=>?_
 (conv=>arg 2; whnf)
 with_reducible exact (af (ua 1 pP.nd (uc (fS W) hr (aa (uv 0) ae)))
   (ai (kW 40 PassesOwn.never (yT (cV (yh (uv 1)))) (af (ar (uc (zA W) hr (aa (uv 0) (aa (aV hu (bi W.G (uv 0)) (uv 1) (by trivial)) ae))))
   (af (ar (uc (oa W) hr (aa (uv 0) (aa (uv 1) (aa (aP 36) ae)))))
   (ai (ua 1 pP.nd (uc (fS W) hr (aa (uv 0) ae)))))))))
theorem A3:al ["tables"] ["tables"] (ag (aF 75)):=cE
@[reducible] def A4:BS:=(bL (gL (aS 73 (ad 0)))
 (aq (aK (aB (bJ 1 ir) (ab (ad 0) aj)))
 (aK (aB (bJ 1 zC) (ab (ad 0) aj))))
 a6)
def wz:BF:=cq 1 A4
theorem A5:W.cal "settle" 9 1 wz:=by
 refine bx W.d_settle A3 (b1 fun _=>rfl) fun hr hu=>?_
 (conv=>arg 2; whnf)
 with_reducible exact (ai (a5 (cH (ca (bi W.G (uv 0)))) (af (ar (uc (mh W) hr (aa (uv 0) ae)))
   (ai (ar (uc (DP W) hr (aa (uv 0) ae))))) aQ))
end
section
variable (W:Wr P w K mg base gy)
local macro_rules | `(tactic| rfl) => `(tactic| with_unfolding_all exact rfl)
local macro_rules | `(tactic| trivial) => `(tactic| with_unfolding_all (first | exact Or.inl rfl | exact Or.inr rfl | exact jH _ | exact (fun _ _ => rfl) | exact (fun _ => rfl) | exact ⟨rfl, rfl, rfl, rfl⟩))
theorem df:al ["tables","task","number","handle","mark"] ["tables","task"] (ag (aF 78)):=cE
@[reducible] def rq:BS:=(aq (aZ (bI 0) (ah 2))
 (aq (no 40 (fJ (bM (aS 41 (ad 0)) (ad 1))) (cA 2 (au (ah 3) (au (ah 4) cF)))
 (bL (bB (bn r9 (ad 3) (ad 2)))
 (Cw 2 fk (bI 1))
 a6))
 (a7 (ad 2))))
def ly:BF:=cq 5 rq
theorem rA:W.cal "new_handle" 1 2 ly:=by
 refine bx W.d_new_handle df (b2 fun _ _=>rfl) fun hr hu=>?_
 (conv=>arg 2; whnf)
 with_reducible exact (af (ua 2 df.nd ap)
   (af (gj 40 PassesOwn.never (by rfl) (dR (dF (aV hu (c4 W.G (uv 0)) (uv 1) (by trivial)))) (b9 (n:=2) (by rfl) (ao (ug 3 df.nd) (ao (ug 4 df.nd) bo))) (ai (a5 (bv dG cG (uv 3) (uv 2) (by trivial)) (ai (xx lW (wQ (i:=2) df.nd (by rfl) (by trivial) ap wR))) aQ)))
   (ai (aE (uv 2)))))
theorem gf:al ["tables","mark","task","file","mode","users"] ["tables","mark","task"] (ag (aF 79)):=cE
@[reducible] def wA:BS:=(aq (aZ (bM (aS 54 (ad 0)) (ad 1)) (cA 3 (au (ah 3) (au (ah 4) (au (ah 5) cF)))))
 (aK (bh 0 4 [] bg (ad 0) (ab (aS 54 (ad 0)) (ab (ad 1) (ab (bD (ab (ad 3) (ab (ad 4) (ab (iR eg (ab (wk (bn iS (ad 5) (bD (ab (ad 2) aj)))) aj)) aj)))) aj))))))
def pQ:BF:=cq 6 wA
theorem wB:W.cal "add_user" 2 3 pQ:=by
 refine bx W.d_add_user gf (b3 fun _ _ _=>rfl) fun hr hu=>?_
 (conv=>arg 2; whnf)
 with_reducible exact (af (dQ (dl (aV hu (cC W.G (uv 0)) (uv 1) (by trivial)) (b9 (n:=3) (by rfl) (ao (ug 3 gf.nd) (ao (ug 4 gf.nd) (ao (ug 5 gf.nd) bo))))))
   (ai (ar (um (bq W) W.G.c0 hr (uv 0) (aa (cC W.G (uv 0)) (aa (uv 1) (aa (aJ (aa (uv 3) (aa (uv 4) (aa (bY bS cz (by rfl) W.M.tuple bH (aa (xP (kj (xO (by rfl)) (by rfl) W.M.sorted cw (fW (rR (AK (by rfl)) (by rfl) W.M.set zY (fW (bP dI dP (uv 5) (aJ (aa (uv 2) ae))) jJ)) jJ))) ae)) ae)))) ae)))))))
theorem zD:al ["tables","task","handle","mark","pairs"] ["tables","task","handle","mark"] (ag (aF 80)):=cE
@[reducible] def FE:BS:=(aq (aZ (bn iS (bM (aS 41 (ad 0)) (ad 1)) (bD (ab (bD (ab (ad 2) (ab (ad 3) aj))) aj))) (ah 4))
 (aq (aK (bh 0 4 [] bg (ad 0) (ab (aS 41 (ad 0)) (ab (ad 1) (ab (iR eg (ab (iR hU (ab (ad 4) aj)) aj)) aj)))))
 (aK (aB (bJ 3 pQ) (ab (ad 0) (ab (ad 3) (ab (ad 1) aj)))))))
def DQ:BF:=cq 5 FE
theorem FF:W.cal "lead" 3 4 DQ:=by
 refine bx W.d_lead zD (b4 fun _ _ _ _=>rfl) fun hr hu=>?_
 (conv=>arg 2; whnf)
 with_reducible exact (af (ua 4 zD.nd (bP dI dP (aV hu (c4 W.G (uv 0)) (uv 1) (by trivial)) (aJ (aa (aJ (aa (uv 2) (aa (uv 3) ae))) ae))))
   (af (ar (um (bq W) W.G.c0 hr (uv 0) (aa (c4 W.G (uv 0)) (aa (uv 1) (aa (bY bS cz (by rfl) W.M.tuple bH (aa (bN (eO (by rfl)) fM (by rfl) W.M.sorted cw (aa (uv 4) ae)) ae)) ae)))))
   (ai (ar (uc (wB W) hr (aa (uv 0) (aa (uv 3) (aa (uv 1) ae))))))))
theorem dZ:al ["tables","mark","task","file","mode","users","left"] ["tables","mark","task"] (ag (aF 81)):=cE
abbrev j8:Scope:=uz [("user",.local),("task",.free)]
theorem i8:aW (ag (aF 81)) ["tables","mark","task","file","mode","users","left"] j8 ["user","task"] [none,some 2]:=uA
@[reducible] def uQ:BS:=(aq (aZ (bM (aS 54 (ad 0)) (ad 1)) (cA 3 (au (ah 3) (au (ah 4) (au (ah 5) cF)))))
 (aq (aZ (iR eg (ab (vU 40 [none,some 2] (fJ (ad 5)) (ah 0) (bB (bn Ga (ad 0) (ad 1))) (ad 0)) aj)) (ah 6))
 (aq (bL (gL (ad 6))
 (aq (aK (bh 0 4 [] bg (ad 0) (ab (aS 54 (ad 0)) (ab (ad 1) (ab (bD (ab (ad 3) (ab (ad 4) (ab (ad 6) aj)))) aj)))))
 Ch)
 a6)
 (aq (aK (bh 0 3 [] bR (ad 0) (ab (aS 54 (ad 0)) (ab (ad 1) aj))))
 (aq (aK (bh 0 3 [] bR (ad 0) (ab (bM (aS 38 (ad 0)) (ad 3)) (ab (bD (ab (bC (.str 45)) (ab (ad 1) aj))) aj))))
 (aK (bh 0 3 [] bR (ad 0) (ab (bM (aS 75 (ad 0)) (ad 3)) (ab (ad 1) aj)))))))))
def mT:BF:=cq 7 uQ
theorem uR:W.cal "lose_user" 2 3 mT:=by
 refine bx W.d_lose_user dZ (b3 fun _ _ _=>rfl) fun hr hu=>?_
 (conv=>arg 2; whnf)
 with_reducible exact (af (dQ (dl (aV hu (cC W.G (uv 0)) (uv 1) (by trivial)) (b9 (n:=3) (by rfl) (ao (ug 3 dZ.nd) (ao (ug 4 dZ.nd) (ao (ug 5 dZ.nd) bo))))))
   (af (ua 6 dZ.nd (bY bS cz (by rfl) W.M.tuple bH (aa (gN 40 (by decide) (gz (by rfl) (by with_unfolding_all exact i8) (dR (dF (uv 5))) (fun _ _ _ _ _=>(ug 0 i8.nd)) (fun _ _ _ _ _=>(gM (bv oj jP (uv 0) (uv 1) (by trivial)))) (fun _ _ _ _ _=>(uv 0)))) ae)))
   (af (a5 (cH (ca (uv 6))) (af (ar (um (bq W) W.G.c0 hr (uv 0) (aa (cC W.G (uv 0)) (aa (uv 1) (aa (aJ (aa (uv 3) (aa (uv 4) (aa (uv 6) ae)))) ae)))))
   (ai yQ)) aQ)
   (af (ar (um (cb W) W.G.c0 hr (uv 0) (aa (cC W.G (uv 0)) (aa (uv 1) ae))))
   (af (ar (um (cb W) W.G.c0 hr (uv 0) (aa (aV hu (f8 W.G (uv 0)) (uv 3) (by trivial)) (aa (aJ (aa (aP 45) (aa (uv 1) ae))) ae))))
   (ai (ar (um (cb W) W.G.c0 hr (uv 0) (aa (aV hu (DG W.G (uv 0)) (uv 3) (by trivial)) (aa (uv 1) ae))))))))))
theorem oe:al ["tables","task","handle","mark","file","left"] ["tables","task","handle"] (ag (aF 82)):=cE
abbrev rB:Scope:=uz [("pair",.local),("handle",.free)]
theorem sV:aW (ag (aF 82)) ["tables","task","handle","mark","file","left"] rB ["pair","handle"] [none,some 2]:=uA
abbrev rC:Scope:=uz [("pair",.local)]
theorem sW:aW (ag (aF 82)) ["tables","task","handle","mark","file","left"] rC ["pair"] [none]:=uA
@[reducible] def FG:BS:=(aq (aZ (aB (bJ 3 l8) (ab (ad 0) (ab (ad 1) (ab (ad 2) aj)))) (ah 3))
 (aq (aZ (bn eU (bM (aS 54 (ad 0)) (ad 3)) (bI 0)) (ah 4))
 (aq (aZ (iR eg (ab (vU 40 [none,some 2] (fJ (bM (aS 41 (ad 0)) (ad 1))) (ah 0) (bB (bn Ga (bn eU (ad 0) (bI 0)) (ad 1))) (ad 0)) aj)) (ah 5))
 (aq (aK (bh 0 4 [] bg (ad 0) (ab (aS 41 (ad 0)) (ab (ad 1) (ab (ad 5) aj)))))
 (aq (aK (bh 0 3 [] bR (ad 0) (ab (bM (aS 38 (ad 0)) (ad 4)) (ab (bD (ab (bC (.str 66)) (ab (ad 1) aj))) aj))))
 (bL (bB (bn (Iy true) (ad 3) (vU 40 [none] (fJ (ad 5)) (ah 0) kX (bn eU (ad 0) (bI 1)))))
 (aK (aB (bJ 3 mT) (ab (ad 0) (ab (ad 3) (ab (ad 1) aj)))))
 a6))))))
def DR:BF:=cq 6 FG
theorem FH:W.cal "shut" 3 3 DR:=by
 refine bx W.d_shut oe (b3 fun _ _ _=>rfl) fun hr hu=>?_
 (conv=>arg 2; whnf)
 with_reducible exact (af (ua 3 oe.nd (uc (pH W) hr (aa (uv 0) (aa (uv 1) (aa (uv 2) ae)))))
   (af (ua 4 oe.nd (a8 (aV hu (cC W.G (uv 0)) (uv 3) (by trivial)) ap (by trivial)))
   (af (ua 5 oe.nd (bY bS cz (by rfl) W.M.tuple bH (aa (gN 40 (by decide) (gz (by rfl) (by with_unfolding_all exact sV) (dR (dF (aV hu (c4 W.G (uv 0)) (uv 1) (by trivial)))) (fun _ _ _ _ _=>(ug 0 sV.nd)) (fun _ _ _ _ _=>(gM (bv oj jP (a8 (uv 0) ap (by trivial)) (uv 1) (by trivial)))) (fun _ _ _ _ _=>(uv 0)))) ae)))
   (af (ar (um (bq W) W.G.c0 hr (uv 0) (aa (c4 W.G (uv 0)) (aa (uv 1) (aa (uv 5) ae)))))
   (af (ar (um (cb W) W.G.c0 hr (uv 0) (aa (aV hu (f8 W.G (uv 0)) (uv 4) (by trivial)) (aa (aJ (aa (aP 66) (aa (uv 1) ae))) ae))))
   (ai (a5 (bv rY t6 (uv 3) (gN 40 (by decide) (gz (by rfl) (by with_unfolding_all exact sW) (dR (dF (uv 5))) (fun _ _ _ _ _=>(ug 0 sW.nd)) (fun _ _ _ _ _=>cB) (fun _ _ _ _ _=>(a8 (uv 0) ap (by trivial))))) (by rfl)) (ai (ar (uc (uR W) hr (aa (uv 0) (aa (uv 3) (aa (uv 1) ae)))))) aQ)))))))
theorem gg:al ["tables","task","pairs","handle","mark"] ["tables","task"] (ag (aF 83)):=cE
@[reducible] def wC:BS:=(aq (bL (bB (vQ (ad 1) (aS 5 (ad 0))))
 (aK (aB (bJ 3 pL) (ab (ad 0) (ab (bM (aS 5 (ad 0)) (ad 1)) (ab (bC (.str 27)) aj)))))
 a6)
 (aq (aZ (bM (aS 41 (ad 0)) (ad 1)) (ah 2))
 (aq (no 40 (fJ (ad 2)) (cA 2 (au (ah 3) (au (ah 4) cF)))
 (aK (aB (bJ 3 DR) (ab (ad 0) (ab (ad 1) (ab (ad 3) aj))))))
 (aK (bh 0 3 [] bR (ad 0) (ab (aS 41 (ad 0)) (ab (ad 1) aj)))))))
def pR:BF:=cq 5 wC
theorem wD:W.cal "end_task" 4 2 pR:=by
 refine bx W.d_end_task gg (b2 fun _ _=>rfl) fun hr hu=>?_
 (conv=>arg 2; whnf)
 with_reducible exact (af (a5 (xu hu (uv 1) (dB W.G (uv 0)) (by rfl)) (ai (ar (uc (oa W) hr (aa (uv 0) (aa (aV hu (dB W.G (uv 0)) (uv 1) (by trivial)) (aa (aP 27) ae)))))) aQ)
   (af (ua 2 gg.nd (aV hu (c4 W.G (uv 0)) (uv 1) (by trivial)))
   (af (gj 40 PassesOwn.never (by rfl) (dR (dF (uv 2))) (b9 (n:=2) (by rfl) (ao (ug 3 gg.nd) (ao (ug 4 gg.nd) bo))) (ai (ar (uc (FH W) hr (aa (uv 0) (aa (uv 1) (aa (uv 3) ae)))))))
   (ai (ar (um (cb W) W.G.c0 hr (uv 0) (aa (c4 W.G (uv 0)) (aa (uv 1) ae))))))))
theorem iu:al ["tables","ask","wait","blocker"] ["tables","ask","wait"] (ag (aF 84)):=cE
@[reducible] def nC:BS:=(aq (aZ (aB (bJ 2 fc) (ab (ad 0) (ab (ad 1) aj))) (ah 3))
 (aq (bL (bB (gH (ad 3)))
 (aq (aK (aB (bJ 2 x5) (ab (ad 0) (ab (ad 1) aj))))
 (a7 (bC .non)))
 a6)
 (aq (bL (ni (gL (ad 2)))
 cO
 a6)
 (aq (bL (bB (gH (bn eU (ad 1) (bI 4))))
 cO
 a6)
 (a7 (aB (bJ 2 jD) (ab (ad 0) (ab (ad 1) aj))))))))
def i9:BF:=cq 4 nC
theorem nE:W.cal "take_or_wait" 9 3 i9:=by
 refine bx W.d_take_or_wait iu (b3 fun _ _ _=>rfl) fun hr hu=>?_
 (conv=>arg 2; whnf)
 with_reducible exact (af (ua 3 iu.nd (uc (gR W) hr (aa (uv 0) (aa (uv 1) ae))))
   (af (a5 (ee (cV (cU (uv 3)))) (af (ar (uc (zA W) hr (aa (uv 0) (aa (uv 1) ae))))
   (ai (aE iO))) aQ)
   (af (a5 (fI (cH (ca (uv 2)))) (ai bU) aQ)
   (af (a5 (ee (cV (cU (a8 (uv 1) ap (by trivial))))) (ai bU) aQ)
   (ai (aE (uc (pO W) hr (aa (uv 0) (aa (uv 1) ae)))))))))
theorem mU:al ["tables","values","task"] ["tables","values"] (ag (aF 85)):=cE
@[reducible] def wE:BS:=(aq (aZ (bh 0 2 [] dU (ad 0) (ab (bC (.str 66)) aj)) (ah 2))
 (aq (aK (bh 0 4 [] bg (ad 0) (ab (aS 41 (ad 0)) (ab (ad 2) (ab (bD aj) aj)))))
 (a7 (ad 2))))
def pS:BF:=cq 3 wE
theorem wF:W.cal "do_begin" 3 2 pS:=by
 refine bx W.d_do_begin mU (b2 fun _ _=>rfl) fun hr hu=>?_
 (conv=>arg 2; whnf)
 with_reducible exact (af (ua 2 mU.nd (um (fO W) W.G.c0 hr (uv 0) (aa (aP 66) ae)))
   (af (ar (um (bq W) W.G.c0 hr (uv 0) (aa (c4 W.G (uv 0)) (aa (uv 2) (aa (aJ ae) ae)))))
   (ai (aE (uv 2)))))
theorem c9:al ["tables","values","task","file","mode","mark","handle"] ["tables","values"] (ag (aF 86)):=cE
@[reducible] def uS:BS:=(aq (aZ (ad 1) (cA 3 (au (ah 2) (au (ah 3) (au (ah 4) cF)))))
 (aq (aK (aB (bJ 2 gp) (ab (ad 0) (ab (ad 2) aj))))
 (aq (aK (aB (bJ 1 li) (ab (ad 4) aj)))
 (aq (aK (aB (bJ 2 hV) (ab (ad 0) (ab (ad 3) aj))))
 (aq (aZ (bh 0 2 [] dU (ad 0) (ab (bC (.str 45)) aj)) (ah 5))
 (aq (aZ (aB (bJ 2 ly) (ab (ad 0) (ab (ad 2) aj))) (ah 6))
 (aq (aK (bh 0 4 [] bg (ad 0) (ab (aS 54 (ad 0)) (ab (ad 5) (ab (bD (ab (ad 3) (ab (ad 4) (ab (bD aj) aj)))) aj)))))
 (aq (aK (aB (bJ 4 DQ) (ab (ad 0) (ab (ad 2) (ab (ad 6) (ab (ad 5) aj))))))
 (a7 (ad 6))))))))))
def mV:BF:=cq 7 uS
theorem uT:W.cal "do_attach" 5 2 mV:=by
 refine bx W.d_do_attach c9 (b2 fun _ _=>rfl) fun hr hu=>?_
 (conv=>arg 2; whnf)
 with_reducible exact (af (dQ (dl (uv 1) (b9 (n:=3) (by rfl) (ao (ug 2 c9.nd) (ao (ug 3 c9.nd) (ao (ug 4 c9.nd) bo))))))
   (af (ar (uc (iW W) hr (aa (uv 0) (aa (uv 2) ae))))
   (af (ar (uc (qS W) hr (aa (uv 4) ae)))
   (af (ar (uc (jw W) hr (aa (uv 0) (aa (uv 3) ae))))
   (af (ua 5 c9.nd (um (fO W) W.G.c0 hr (uv 0) (aa (aP 45) ae)))
   (af (ua 6 c9.nd (uc (rA W) hr (aa (uv 0) (aa (uv 2) ae))))
   (af (ar (um (bq W) W.G.c0 hr (uv 0) (aa (cC W.G (uv 0)) (aa (uv 5) (aa (aJ (aa (uv 3) (aa (uv 4) (aa (aJ ae) ae)))) ae)))))
   (af (ar (uc (FF W) hr (aa (uv 0) (aa (uv 2) (aa (uv 6) (aa (uv 5) ae))))))
   (ai (aE (uv 6)))))))))))
theorem sX:al ["tables","values","task"] ["tables","values"] (ag (aF 90)):=cE
@[reducible] def A6:BS:=(aq (aZ (bn eU (ad 1) (bI 0)) (ah 2))
 (aq (aK (aB (bJ 2 dW) (ab (ad 0) (ab (ad 2) aj))))
 (aK (aB (bJ 2 pR) (ab (ad 0) (ab (ad 2) aj))))))
def wG:BF:=cq 3 A6
theorem A7:W.cal "do_end" 5 2 wG:=by
 refine bx W.d_do_end sX (b2 fun _ _=>rfl) fun hr hu=>?_
 (conv=>arg 2; whnf)
 with_reducible exact (af (ua 2 sX.nd (a8 (uv 1) ap (by trivial)))
   (af (ar (uc (eJ W) hr (aa (uv 0) (aa (uv 2) ae))))
   (ai (ar (uc (wD W) hr (aa (uv 0) (aa (uv 2) ae)))))))
theorem cI:al ["tables","values","task","handle","kind","stretch","by","wait","mark","mode"] ["tables","values"] (ag (aF 91)):=cE
@[reducible] def x6:BS:=(aq (aZ (ad 1) (cA 6 (au (ah 2) (au (ah 3) (au (ah 4) (au (ah 5) (au (ah 6) (au (ah 7) cF))))))))
 (aq (aZ (aB (bJ 3 hZ) (ab (ad 0) (ab (ad 2) (ab (ad 3) aj)))) (ah 8))
 (aq (aK (aB (bJ 1 hW) (ab (ad 4) aj)))
 (aq (aK (aB (bJ 1 hX) (ab (ad 6) aj)))
 (aq (aK (aB (bJ 1 di) (ab (ad 5) aj)))
 (aq (aZ (bn eU (bM (aS 54 (ad 0)) (ad 8)) (bI 1)) (ah 9))
 (aq (bL (bB (bn r9 (ad 9) (Dy il (ad 4))))
 cO
 a6)
 (a7 (aB (bJ 3 i9) (ab (ad 0) (ab (aB (bJ 6 pK) (ab (ad 0) (ab (ad 2) (ab (ad 8) (ab (ad 4) (ab (ad 5) (ab (ad 6) aj))))))) (ab (ad 7) aj))))))))))))
def sY:BF:=cq 10 x6
theorem x8:W.cal "do_lock" 10 2 sY:=by
 refine bx W.d_do_lock cI (b2 fun _ _=>rfl) fun hr hu=>?_
 (conv=>arg 2; whnf)
 with_reducible exact (af (dQ (dl (uv 1) (b9 (n:=6) (by rfl) (ao (ug 2 cI.nd) (ao (ug 3 cI.nd) (ao (ug 4 cI.nd) (ao (ug 5 cI.nd) (ao (ug 6 cI.nd) (ao (ug 7 cI.nd) bo)))))))))
   (af (ua 8 cI.nd (uc (jy W) hr (aa (uv 0) (aa (uv 2) (aa (uv 3) ae)))))
   (af (ar (uc (jx W) hr (aa (uv 4) ae)))
   (af (ar (uc (iX W) hr (aa (uv 6) ae)))
   (af (ar (uc (er W) hr (aa (uv 5) ae)))
   (af (ua 9 cI.nd (a8 (aV hu (cC W.G (uv 0)) (uv 8) (by trivial)) ap (by trivial)))
   (af (a5 (bv dG cG (uv 9) (zr (by rfl) W.T.g_WRONG_MODES (uv 4) (by trivial)) (by trivial)) (ai bU) aQ)
   (ai (aE (uc (nE W) hr (aa (uv 0) (aa (uc (sU W) hr (aa (uv 0) (aa (uv 2) (aa (uv 8) (aa (uv 4) (aa (uv 5) (aa (uv 6) ae))))))) (aa (uv 7) ae)))))))))))))
theorem cJ:al ["tables","values","task","handle","stretch","by","mark","holder"] ["tables","values"] (ag (aF 92)):=cE
@[reducible] def uU:BS:=(aq (aZ (ad 1) (cA 4 (au (ah 2) (au (ah 3) (au (ah 4) (au (ah 5) cF))))))
 (aq (aZ (aB (bJ 3 hZ) (ab (ad 0) (ab (ad 2) (ab (ad 3) aj)))) (ah 6))
 (aq (aK (aB (bJ 1 hX) (ab (ad 5) aj)))
 (aq (aK (aB (bJ 1 di) (ab (ad 4) aj)))
 (aq (aZ (bD (ab (ad 5) (ab (Ce (bB (bn r9 (ad 5) (bC (.str 66)))) (ad 2) (ad 6)) aj))) (ah 7))
 (aK (aB (bJ 4 ic) (ab (ad 0) (ab (bn eU (bM (aS 54 (ad 0)) (ad 6)) (bI 0)) (ab (ad 7) (ab (ad 4) aj)))))))))))
def mW:BF:=cq 8 uU
theorem uV:W.cal "do_unlock" 6 2 mW:=by
 refine bx W.d_do_unlock cJ (b2 fun _ _=>rfl) fun hr hu=>?_
 (conv=>arg 2; whnf)
 with_reducible exact (af (dQ (dl (uv 1) (b9 (n:=4) (by rfl) (ao (ug 2 cJ.nd) (ao (ug 3 cJ.nd) (ao (ug 4 cJ.nd) (ao (ug 5 cJ.nd) bo)))))))
   (af (ua 6 cJ.nd (uc (jy W) hr (aa (uv 0) (aa (uv 2) (aa (uv 3) ae)))))
   (af (ar (uc (iX W) hr (aa (uv 5) ae)))
   (af (ar (uc (er W) hr (aa (uv 4) ae)))
   (af (ua 7 cJ.nd (aJ (aa (uv 5) (aa (de (bv dG cG (uv 5) (aP 66) (by trivial)) (uv 2) (uv 6)) ae))))
   (ai (ar (uc (jA W) hr (aa (uv 0) (aa (a8 (aV hu (cC W.G (uv 0)) (uv 6) (by trivial)) ap (by trivial)) (aa (uv 7) (aa (uv 4) ae))))))))))))
theorem lz:al ["tables","values","task"] ["tables","values"] (ag (aF 93)):=cE
@[reducible] def uW:BS:=(aq (aZ (bn eU (ad 1) (bI 0)) (ah 2))
 (aq (aK (aB (bJ 2 dW) (ab (ad 0) (ab (ad 2) aj))))
 (aq (bL (bB (nU (ad 2) (aS 5 (ad 0))))
 cO
 a6)
 (aK (aB (bJ 3 pL) (ab (ad 0) (ab (bM (aS 5 (ad 0)) (ad 2)) (ab (bC (.str 18)) aj))))))))
def mX:BF:=cq 3 uW
theorem uX:W.cal "do_cancel" 4 2 mX:=by
 refine bx W.d_do_cancel lz (b2 fun _ _=>rfl) fun hr hu=>?_
 (conv=>arg 2; whnf)
 with_reducible exact (af (ua 2 lz.nd (a8 (uv 1) ap (by trivial)))
   (af (ar (uc (eJ W) hr (aa (uv 0) (aa (uv 2) ae))))
   (af (a5 (sg hu (uv 2) (dB W.G (uv 0)) (by rfl)) (ai bU) aQ)
   (ai (ar (uc (oa W) hr (aa (uv 0) (aa (aV hu (dB W.G (uv 0)) (uv 2) (by trivial)) (aa (aP 18) ae)))))))))
def DS:List (Option BF):=[some pS,some mV,none,none,none,some wG,some sY,some mW,some mX,none,none]
theorem DT (W:Wr P w K mg base gy):zt P w K mg base gy 10 2 DS:=by
 intro j f e
 match j,e with
 | 0,e=>cases e; exact ⟨by decide,l4 (wF W) W.g_do_begin (by decide)⟩
 | 1,e=>cases e; exact ⟨by decide,l4 (uT W) W.g_do_attach (by decide)⟩
 | 2,e=>cases e
 | 3,e=>cases e
 | 4,e=>cases e
 | 5,e=>cases e; exact ⟨by decide,l4 (A7 W) W.g_do_end (by decide)⟩
 | 6,e=>cases e; exact ⟨by decide,l4 (x8 W) W.g_do_lock (by decide)⟩
 | 7,e=>cases e; exact ⟨by decide,l4 (uV W) W.g_do_unlock (by decide)⟩
 | 8,e=>cases e; exact ⟨by decide,l4 (uX W) W.g_do_cancel (by decide)⟩
 | 9,e=>cases e
 | 10,e=>cases e
 | (n + 11),e=>cases e
end
section
variable (W:Wr P w K mg base gy)
local macro_rules | `(tactic| rfl) => `(tactic| with_unfolding_all exact rfl)
local macro_rules | `(tactic| trivial) => `(tactic| with_unfolding_all (first | exact Or.inl rfl | exact Or.inr rfl | exact jH _ | exact (fun _ _ => rfl) | exact (fun _ => rfl) | exact ⟨rfl, rfl, rfl, rfl⟩))
theorem mi:al ["self","files","fair"] ["self","files","fair"] (ag (aA (aF 101) 0)):=cE
@[reducible] def mj:BS:=(aq (d5 31 (ad 0) (ad 1))
 (aq (d5 29 (ad 0) (ad 2))
 (aq (d5 65 (ad 0) (CI 0 3 gb (ab (ad 1) (ab (ad 2) aj))))
 (aq (d5 57 (ad 0) (fE aj))
 (d5 34 (ad 0) (fE aj))))))
def iw:BF:=cq 3 mj
theorem nF (W:Wr P w K mg base gy):KH P w K mg base gy fT 1 "Desk" 3 3 2 ["fair"] [.arg 0] iw:=by
 refine JC W.i_Desk W.g_Desk mi (b2 fun _ _=>(b1 fun _=>rfl)) trivial fun hr hu=>?_
 (conv=>arg 2; whnf)
 with_reducible exact (af (cZ 31 (by decide +kernel) (by decide) W.G.cls W.G.na_files (uv 0) (uv 1) (by rfl))
   (af (cZ 29 (by decide +kernel) (by decide) W.G.cls W.G.na_fair (uv 0) (uv 2) (by rfl))
   (af (cZ 65 (by decide +kernel) (by decide) W.G.cls W.G.na_tables (uv 0) (E5 (by decide) (lh W) (hr.mono (by decide)) fb (aa (uv 1) (aa (uv 2) ae))) (by rfl))
   (af (cZ 57 (by decide +kernel) (by decide) W.G.cls W.G.na_past (uv 0) (cp ae) (by rfl))
   (ai (cZ 34 (by decide +kernel) (by decide) W.G.cls W.G.na_future (uv 0) (cp ae) (by rfl)))))))
theorem j9:al ["tables","word","values","deed","told"] ["tables","word","values"] (ag (aF 97)):=cE
@[reducible] def x9:BS:=(aq (aZ (Dy sK (ad 1)) (ah 3))
 (aq (aZ (Dz 2 DS (ad 3) (ab (ad 0) (ab (ad 2) aj))) (ah 4))
 (aq (aK (aB (bJ 1 wz) (ab (ad 0) aj)))
 (a7 (ad 4)))))
def sZ:BF:=cq 5 x9
theorem ya:W.cal "do_deed" 11 3 sZ:=by
 refine bx W.d_do_deed j9 (b3 fun _ _ _=>rfl) fun hr hu=>?_
 (conv=>arg 2; whnf)
 with_reducible exact (af (ua 3 j9.nd (zr (by rfl) W.T.g_DEEDS (uv 1) (by trivial)))
   (af (ua 4 j9.nd (DA (uv 3) (DT W) (hr.mono (by decide)) (aa (uv 0) (aa (uv 2) ae))))
   (af (ar (uc (A5 W) hr (aa (uv 0) ae)))
   (ai (aE (uv 4))))))
theorem ff:al ["self","word","values","start","told"] ["self","word","values"] (ag (aA (aF 101) 1)):=cE
@[reducible] def nG:BS:=(aq (aZ (iR t4 (ab (aS 19 (aS 65 (ad 0))) aj)) (ah 3))
 (aq (aZ (aB (bJ 3 sZ) (ab (aS 65 (ad 0)) (ab (ad 1) (ab (ad 2) aj)))) (ah 4))
 (aq (aK (Ag fm (aS 57 (ad 0)) (ab (bD (ab (ad 1) (ab (ad 2) (ab (ad 3) aj)))) aj)))
 (a7 (ad 4)))))
def ja:BF:=cq 5 nG
theorem pT:W.met 1 "perform" 12 3 [] ja:=by
 refine nv W.t_Desk_perform ff (b3 fun _ _ _=>rfl) fun hr hu=>?_
 (conv=>arg 2; whnf)
 with_reducible exact (af (ua 3 ff.nd (bN d8 g8 (by rfl) W.M.len PySem.boot_len (aa (jV W.G (cr W.G (uv 0))) ae)))
   (af (Fp (ai (ua 4 ff.nd (uc (ya W) hr (aa (cr W.G (uv 0)) (aa (uv 1) (aa (uv 2) ae)))))))
   (af (ar (iT du (iJ PySem.F.plainAttrs_list PySem.F.slot_list_append PySem.F.type_list_append (by with_unfolding_all exact dq) (Fy W.G (uv 0)) (aa (aJ (aa (uv 1) (aa (uv 2) (aa (uv 3) ae)))) ae))))
   (ai (aE (uv 4))))))
theorem pU:al ["self","word","values","told"] ["self","word","values"] (ag (aA (aF 101) 2)):=cE
@[reducible] def yb:BS:=(aq (aZ (bh 1 3 [] ja (ad 0) (ab (ad 1) (ab (ad 2) aj))) (ah 3))
 (aq (d5 34 (ad 0) (fE aj))
 (a7 (ad 3))))
def eB:BF:=cq 4 yb
theorem fA:W.met 1 "do" 13 3 [] eB:=by
 refine nv W.t_Desk_do pU (b3 fun _ _ _=>rfl) fun hr hu=>?_
 (conv=>arg 2; whnf)
 with_reducible exact (af (ua 3 pU.nd (um (pT W) W.G.c1 hr (uv 0) (aa (uv 1) (aa (uv 2) ae))))
   (af (cZ 34 (by decide +kernel) (by decide) W.G.cls W.G.na_future (uv 0) (cp ae) (by rfl))
   (ai (aE (uv 3)))))
theorem rD:al ["self"] ["self"] (ag (aA (aF 101) 3)):=cE
@[reducible] def rE:BS:=(a7 (bh 1 3 [] eB (ad 0) (ab (bC (.str 13)) (ab (bD aj) aj))))
def lA:BF:=cq 1 rE
theorem uY:W.met 1 "begin" 14 1 [] lA:=by
 refine nv W.t_Desk_begin rD (b1 fun _=>rfl) fun hr hu=>?_
 (conv=>arg 2; whnf)
 with_reducible exact (ai (aE (um (fA W) W.G.c1 hr (uv 0) (aa (aP 13) (aa (aJ ae) ae)))))
theorem pV:al ["self","task","file","mode"] ["self","task","file","mode"] (ag (aA (aF 101) 4)):=cE
@[reducible] def pW:BS:=(a7 (bh 1 3 [] eB (ad 0) (ab (bC (.str 6)) (ab (bD (ab (ad 1) (ab (ad 2) (ab (ad 3) aj)))) aj))))
def gu:BF:=cq 4 pW
theorem rF (W:Wr P w K mg base gy) {fa fd} (F:Fun K "attach" "Desk.attach" (aA (aF 101) 4) fa fd):db P w K mg base fT 14 fa fd ["self","task","file","mode"] (r8 gy 4 gu):=by
 refine AQ F pV fun hr hu=>?_
 (conv=>arg 2; whnf)
 with_reducible exact (ai (aE (um (fA W) W.G.c1 hr (uv 0) (aa (aP 6) (aa (aJ (aa (uv 1) (aa (uv 2) (aa (uv 3) ae)))) ae)))))
theorem rG:W.met 1 "attach" 14 4 [.str 15] gu:=by
 obtain ⟨h,t,x,t1,hx,f,ka,doc,pm,an,cdv,ct,kc,kd,ep,ks,F,me,lk⟩:=W.t_Desk_attach
 refine ⟨f,_,_,[.str x t1],[.str x],rfl,rF W F,me,fun s us X hl=>?_,.cons ⟨t1,rfl⟩ .nil,fun _ _ _ _=>.cons ⟨x,hx,rfl⟩ .nil⟩
 have hl3:us.length = 3:=by simpa using hl
 match us,hl3 with
 | [a,b,c],_=>exact PySem.W.kp_binds X fun S=>(sL lk).trans rfl
theorem wH:al ["self","task"] ["self","task"] (ag (aA (aF 101) 8)):=cE
@[reducible] def wI:BS:=(aK (bh 1 3 [] eB (ad 0) (ab (bC (.str 26)) (ab (bD (ab (ad 1) aj)) aj))))
def pX:BF:=cq 2 wI
theorem yc:W.met 1 "end" 14 2 [] pX:=by
 refine nv W.t_Desk_end wH (b2 fun _ _=>rfl) fun hr hu=>?_
 (conv=>arg 2; whnf)
 with_reducible exact (ai (ar (um (fA W) W.G.c1 hr (uv 0) (aa (aP 26) (aa (aJ (aa (uv 1) ae)) ae)))))
theorem uZ:al ["self","task","handle","kind","stretch","by","wait"] ["self","task","handle","kind","stretch","by","wait"] (ag (aA (aF 101) 9)):=cE
@[reducible] def u0:BS:=(a7 (bh 1 3 [] eB (ad 0) (ab (bC (.str 42)) (ab (bD (ab (ad 1) (ab (ad 2) (ab (ad 3) (ab (ad 4) (ab (ad 5) (ab (ad 6) aj))))))) aj))))
def dD:BF:=cq 7 u0
theorem mY (W:Wr P w K mg base gy) {fa fd} (F:Fun K "lock" "Desk.lock" (aA (aF 101) 9) fa fd):db P w K mg base fT 14 fa fd ["self","task","handle","kind","stretch","by","wait"] (r8 gy 7 dD):=by
 refine AQ F uZ fun hr hu=>?_
 (conv=>arg 2; whnf)
 with_reducible exact (ai (aE (um (fA W) W.G.c1 hr (uv 0) (aa (aP 42) (aa (aJ (aa (uv 1) (aa (uv 2) (aa (uv 3) (aa (uv 4) (aa (uv 5) (aa (uv 6) ae))))))) ae)))))
theorem DU (W:Wr P w K mg base gy):Ak P w K mg base gy fT 1 "lock" 14 7 5 ["by"] [.arg 0,.dfl (.bl false) (.bl false) (.bool false)] dD:=by
 obtain ⟨h,t,v,h1,t1,f,ka,doc,pm,an,cdv,ct,kc,kd,ep,ks,F,me,lk⟩:=W.t_Desk_lock
 refine ⟨f,_,_,rfl,mY W F,me,fun s us ws X hu hw=>?_,fun _ _ _ _=>rfl,rfl,trivial⟩
 match us,ws,hu,hw with
 | [a,b,c,d,e],[z],_,_=>exact PySem.W.kp_binds X fun S=>(sL lk).trans rfl
theorem wJ (W:Wr P w K mg base gy):Ak P w K mg base gy fT 1 "lock" 14 7 5 ["by","wait"] [.arg 0,.arg 1] dD:=by
 obtain ⟨h,t,v,h1,t1,f,ka,doc,pm,an,cdv,ct,kc,kd,ep,ks,F,me,lk⟩:=W.t_Desk_lock
 exact ⟨f,_,_,rfl,mY W F,me,F.kwbinds (b5 fun _ _ _ _ _=>b2 fun _ _=>rfl),trivial⟩
theorem pY:al ["self","task","handle","stretch","by"] ["self","task","handle","stretch","by"] (ag (aA (aF 101) 10)):=cE
@[reducible] def pZ:BS:=(aK (bh 1 3 [] eB (ad 0) (ab (bC (.str 71)) (ab (bD (ab (ad 1) (ab (ad 2) (ab (ad 3) (ab (ad 4) aj))))) aj))))
def gv:BF:=cq 5 pZ
theorem jE (W:Wr P w K mg base gy):Ak P w K mg base gy fT 1 "unlock" 14 5 4 ["by"] [.arg 0] gv:=by
 refine Gn W.t_Desk_unlock pY (b4 fun _ _ _ _=>(b1 fun _=>rfl)) trivial fun hr hu=>?_
 (conv=>arg 2; whnf)
 with_reducible exact (ai (ar (um (fA W) W.G.c1 hr (uv 0) (aa (aP 71) (aa (aJ (aa (uv 1) (aa (uv 2) (aa (uv 3) (aa (uv 4) ae))))) ae)))))
theorem p7:al ["self","task"] ["self","task"] (ag (aA (aF 101) 11)):=cE
@[reducible] def p8:BS:=(aK (bh 1 3 [] eB (ad 0) (ab (bC (.str 17)) (ab (bD (ab (ad 1) aj)) aj))))
def jF:BF:=cq 2 p8
theorem rH:W.met 1 "cancel" 14 2 [] jF:=by
 refine nv W.t_Desk_cancel p7 (b2 fun _ _=>rfl) fun hr hu=>?_
 (conv=>arg 2; whnf)
 with_reducible exact (ai (ar (um (fA W) W.G.c1 hr (uv 0) (aa (aP 17) (aa (aJ (aa (uv 1) ae)) ae)))))
theorem jG:al ["self","task","handle","kind","stretch","by","mark"] ["self","task","handle","kind","stretch","by"] (ag (aA (aF 101) 18)):=cE
@[reducible] def rJ:BS:=(aq (aZ (aB (bJ 3 l9) (ab (aS 65 (ad 0)) (ab (ad 1) (ab (ad 2) aj)))) (ah 6))
 (aq (aK (aB (bJ 1 hW) (ab (ad 3) aj)))
 (aq (aK (aB (bJ 1 hX) (ab (ad 5) aj)))
 (aq (aK (aB (bJ 1 di) (ab (ad 4) aj)))
 (a7 (aB (bJ 2 fc) (ab (aS 65 (ad 0)) (ab (aB (bJ 6 pK) (ab (aS 65 (ad 0)) (ab (ad 1) (ab (ad 6) (ab (ad 3) (ab (ad 4) (ab (ad 5) aj))))))) aj))))))))
def lB:BF:=cq 7 rJ
theorem u3 (W:Wr P w K mg base gy):Ak P w K mg base gy fT 1 "probe" 7 6 5 ["by"] [.arg 0] lB:=by
 refine Gn W.t_Desk_probe jG (b5 fun _ _ _ _ _=>(b1 fun _=>rfl)) trivial fun hr hu=>?_
 (conv=>arg 2; whnf)
 with_reducible exact (af (ua 6 jG.nd (uc (pJ W) hr (aa (cr W.G (uv 0)) (aa (uv 1) (aa (uv 2) ae)))))
   (af (ar (uc (jx W) hr (aa (uv 3) ae)))
   (af (ar (uc (iX W) hr (aa (uv 5) ae)))
   (af (ar (uc (er W) hr (aa (uv 4) ae)))
   (ai (aE (uc (gR W) hr (aa (cr W.G (uv 0)) (aa (uc (sU W) hr (aa (cr W.G (uv 0)) (aa (uv 1) (aa (uv 6) (aa (uv 3) (aa (uv 4) (aa (uv 5) ae))))))) ae)))))))))
theorem u4:al ["self"] ["self"] (ag (aA (aF 101) 22)):=cE
@[reducible] def u5:BS:=(a7 (aB (bJ 1 mP) (ab (aS 65 (ad 0)) aj)))
def mZ:BF:=cq 1 u5
theorem wK:W.met 1 "asks" 2 1 [] mZ:=by
 refine nv W.t_Desk_asks u4 (b1 fun _=>rfl) fun hr hu=>?_
 (conv=>arg 2; whnf)
 with_reducible exact (ai (aE (uc (uM W) hr (aa (cr W.G (uv 0)) ae))))
theorem nH:al ["self","number"] ["self","number"] (ag (aA (aF 101) 23)):=cE
@[reducible] def nI:BS:=(a7 (aB (bJ 2 iY) (ab (aS 56 (aS 65 (ad 0))) (ab (ad 1) aj))))
def c5:BF:=cq 2 nI
theorem d4:W.met 1 "outcome" 4 2 [] c5:=by
 refine nv W.t_Desk_outcome nH (b2 fun _ _=>rfl) fun hr hu=>?_
 (conv=>arg 2; whnf)
 with_reducible exact (ai (aE (uc (lj W) hr (aa (iU W.G (cr W.G (uv 0))) (aa (uv 1) ae)))))
theorem m5:al ["self","number","ask"] ["self","number"] (ag (aA (aF 101) 24)):=cE
@[reducible] def wL:BS:=(aq (aZ (aB (bJ 2 iY) (ab (aS 73 (aS 65 (ad 0))) (ab (ad 1) aj))) (ah 2))
 (a7 (iR eg (ab (bn sh (aB (bJ 2 cD) (ab (aS 65 (ad 0)) (ab (ad 2) aj))) (aB (bJ 2 cM) (ab (aS 65 (ad 0)) (ab (ad 2) aj)))) aj))))
def p9:BF:=cq 3 wL
theorem yd:W.met 1 "why" 6 2 [] p9:=by
 refine nv W.t_Desk_why m5 (b2 fun _ _=>rfl) fun hr hu=>?_
 (conv=>arg 2; whnf)
 with_reducible exact (af (ua 2 m5.nd (uc (lj W) hr (aa (bi W.G (cr W.G (uv 0))) (aa (uv 1) ae))))
   (ai (aE (bY bS cz (by rfl) W.M.tuple bH (aa (bP nN kU (uc (cQ W) hr (aa (cr W.G (uv 0)) (aa (uv 2) ae))) (uc (c8 W) hr (aa (cr W.G (uv 0)) (aa (uv 2) ae)))) ae)))))
theorem rK:al ["self","file"] ["self","file"] (ag (aA (aF 101) 19)):=cE
@[reducible] def rL:BS:=(aq (aK (aB (bJ 2 hV) (ab (aS 65 (ad 0)) (ab (ad 1) aj))))
 (a7 (aB (bJ 2 ll) (ab (aS 65 (ad 0)) (ab (ad 1) aj)))))
def lC:BF:=cq 2 rL
theorem u6:W.met 1 "locks" 5 2 [] lC:=by
 refine nv W.t_Desk_locks rK (b2 fun _ _=>rfl) fun hr hu=>?_
 (conv=>arg 2; whnf)
 with_reducible exact (af (ar (uc (jw W) hr (aa (cr W.G (uv 0)) (aa (uv 1) ae))))
   (ai (aE (uc (rc W) hr (aa (cr W.G (uv 0)) (aa (uv 1) ae))))))
end
section
local macro_rules | `(tactic| rfl) => `(tactic| with_unfolding_all exact rfl)
local macro_rules | `(tactic| trivial) => `(tactic| with_unfolding_all (first | exact Or.inl rfl | exact Or.inr rfl | exact jH _ | exact (fun _ _ => rfl) | exact (fun _ => rfl) | exact ⟨rfl, rfl, rfl, rfl⟩))
theorem dw:al ["_law_script","_law_town","_law_fair_so","_law_readers","_law_by_so","_law_desk","_law_first","_law_k","_law_told","_law_beside","_law_turn","_law_due"] ["_law_script"] (ag (aF 105)):=cE
abbrev u7:Scope:=uz [("_law_k",.local),("_law_desk",.free)]
theorem wM:aW (ag (aF 105)) ["_law_script","_law_town","_law_fair_so","_law_readers","_law_by_so","_law_desk","_law_first","_law_k","_law_told","_law_beside","_law_turn","_law_due"] u7 ["_law_k","_law_desk"] [none,some 5]:=uA
abbrev u8:Scope:=uz [("_law_k",.local),("_law_desk",.free)]
theorem wN:aW (ag (aF 105)) ["_law_script","_law_town","_law_fair_so","_law_readers","_law_by_so","_law_desk","_law_first","_law_k","_law_told","_law_beside","_law_turn","_law_due"] u8 ["_law_k","_law_desk"] [none,some 5]:=uA
@[reducible] def qa:BS:=(aZ (bn r9 (pi (ab (ad 0) (ab (ad 1) (ab (bI 2) aj)))) (bI 0)) (ah 2))
@[reducible] def qb:BS:=(aZ (bn fk (bI 1) (pi (ab (ad 0) (ab (ad 1) (ab (bI 3) aj))))) (ah 3))
@[reducible] def qc:BS:=(aZ (bn eU (fE (ab (bC (.str 66)) (ab (bC (.str 45)) aj))) (pi (ab (ad 0) (ab (ad 1) (ab (bI 2) aj))))) (ah 4))
@[reducible] def qd:BS:=(aZ (bD (ab (DB 1 3 2 (["fair"]:List Str).length [.arg 0] iw (ab (bD (ab (bC (.str 0)) aj)) aj) (ab (ad 2) aj)) (ab (pi (ab (ad 0) (ab (ad 1) (ab (bI 40) aj)))) aj))) (cA 2 (au (ah 5) (au (ah 6) cF))))
@[reducible] def qf:BS:=(no 40 (oT (ab (bn fk (ad 3) (bI 2)) aj)) (ah 7)
 (aq (aK (bh 1 1 [] lA (ad 5) aj))
 (aK (bh 1 4 [.str 15] gu (ad 5) (ab (ad 7) (ab (bC (.str 0)) aj))))))
@[reducible] def qg:BS:=(aK (jS 1 7 5 (["by"]:List Str).length [.arg 0,.dfl (.bl false) (.bl false) (.bool false)] dD (ad 5) (ab (bI 0) (ab (bI 0) (ab (bC (.str 63)) (ab (bD (ab (ad 6) (ab (bn fk (ad 6) (bI 9)) aj))) aj)))) (ab (ad 4) aj)))
@[reducible] def qh:BS:=(bL (bB (bn Ga (jS 1 7 5 (["by","wait"]:List Str).length [.arg 0,.arg 1] dD (ad 5) (ab (bI 1) (ab (bI 0) (ab (bC (.str 2)) (ab (bD (ab (bn fk (ad 6) (bI 4)) (ab (bC .non) aj))) aj)))) (ab (ad 4) (ab (bC (.bl true)) aj))) (bI 0)))
 (a7 (bC (.bl false)))
 a6)
@[reducible] def qi:BS:=(no 40 (oT (ab (ad 3) aj)) (ah 7)
 (aq (aZ (jS 1 7 5 (["by","wait"]:List Str).length [.arg 0,.arg 1] dD (ad 5) (ab (bn fk (ad 7) (bI 2)) (ab (bI 0) (ab (bC (.str 63)) (ab (bD (ab (bn fk (bn fk (ad 6) (bI 5)) (ad 7)) (ab (bn fk (bn fk (ad 6) (bI 6)) (ad 7)) aj))) aj)))) (ab (ad 4) (ab (bC (.bl true)) aj))) (ah 8))
 (bL (bB (bn Ga (ad 8) (Ce (gL (ad 2)) (bn fk (ad 7) (bI 1)) (bC .non))))
 (a7 (bC (.bl false)))
 a6)))
@[reducible] def qj:BS:=(aZ (jS 1 6 5 (["by"]:List Str).length [.arg 0] lB (ad 5) (ab (bI 0) (ab (bI 0) (ab (bC (.str 63)) (ab (bD (ab (bI 0) (ab (bn fk (ad 6) (bI 4)) aj))) aj)))) (ab (ad 4) aj)) (ah 9))
@[reducible] def ml:BS:=(bL (D9 (bB (yR (ad 9))) (bB (bn Ga (iR t4 (ab (bh 1 1 [] mZ (ad 5) aj) aj)) (Ce (gL (ad 2)) (bn fk (ad 3) (bI 1)) (bI 1)))))
 (a7 (bC (.bl false)))
 a6)
@[reducible] def mm:BS:=(bL (Aa (gL (ad 2)) (bB (bn (Af true) (vU 40 [none,some 5] (oT (ab (ad 3) aj)) (ah 0) kX (bh 1 2 [] p9 (ad 1) (ab (bn fk (ad 0) (bI 1)) aj))) (bn Aq (fE (ab (bD (ab (bI 0) aj)) aj)) (ad 3)))))
 (a7 (bC (.bl false)))
 a6)
@[reducible] def mn:BS:=(aZ (pi (ab (ad 0) (ab (ad 1) (ab (bI 3) aj)))) (ah 10))
@[reducible] def mq:BS:=(bL (bB (bn r9 (ad 10) (bI 0)))
 (aq (aK (bh 1 2 [] jF (ad 5) (ab (bI 1) aj)))
 (aZ (Ce (ni (gL (ad 2))) (fE aj) (bn sh (fE (ab (bC (.str 18)) aj)) (bn Aq (fE (ab (bC (.str 36)) aj)) (ad 3)))) (ah 11)))
 (bL (bB (bn r9 (ad 10) (bI 1)))
 (aq (aK (jS 1 5 4 (["by"]:List Str).length [.arg 0] gv (ad 5) (ab (bI 0) (ab (bI 0) (ab (bD (ab (ad 6) (ab (bn fk (ad 6) (bI 9)) aj))) aj))) (ab (ad 4) aj)))
 (aZ (Ce (gL (ad 2)) (bn sh (fE (ab (bC (.str 36)) aj)) (bn Aq (fE (ab (bC (.str 74)) aj)) (ad 3))) (fE aj)) (ah 11)))
 (aq (aK (bh 1 2 [] pX (ad 5) (ab (bI 1) aj)))
 (aZ (Ce (gL (ad 2)) (bn sh (fE (ab (bC (.str 27)) aj)) (bn Aq (fE (ab (bC (.str 36)) aj)) (ad 3))) (fE aj)) (ah 11)))))
@[reducible] def mr:BS:=(bL (Aa (gL (ad 2)) (bB (bn (Af true) (vU 40 [none,some 5] (oT (ab (bn fk (ad 3) (bI 1)) aj)) (ah 0) kX (bh 1 2 [] c5 (ad 1) (ab (ad 0) aj))) (ad 11))))
 (a7 (bC (.bl false)))
 a6)
@[reducible] def mt:BS:=(bL (ni (gL (ad 2)))
 (a7 (bn r9 (bh 1 2 [] c5 (ad 5) (ab (bI 0) aj)) (bn eU (fE (ab (bC (.str 18)) (ab (bC (.str 74)) (ab (bC (.str 27)) aj)))) (ad 10))))
 a6)
@[reducible] def mv:BS:=(bL (bB (bn r9 (ad 10) (bI 1)))
 (aq (aK (jS 1 5 4 (["by"]:List Str).length [.arg 0] gv (ad 5) (ab (bI 1) (ab (bI 0) (ab (bD (ab (bn fk (ad 6) (bI 5)) (ab (bn fk (ad 6) (bI 6)) aj))) aj))) (ab (ad 4) aj)))
 (a7 (vI (bn r9 (bh 1 2 [] c5 (ad 5) (ab (bI 1) aj)) (bC (.str 36))) (Cd (bn r9 (ad 3) (bI 1)) (bn r9 (bh 1 2 [] c5 (ad 5) (ab (bI 2) aj)) (bC (.str 74)))))))
 a6)
@[reducible] def mw:BS:=(a7 (bn r9 (iR t4 (ab (bh 1 2 [] lC (ad 5) (ab (bC (.str 0)) aj)) aj)) (bn fk (ad 3) (bI 1))))
@[reducible] def ye:BS:=(aq qa (aq qb (aq qc (aq qd (aq qf (aq qg (aq qh (aq qi (aq qj (aq ml (aq mm (aq mn (aq mq (aq mr (aq mt (aq mv mw))))))))))))))))
def kf:Ds:=⟨fun _ _=>false,fun v _=>match v with
 | .bl true=>true
 | _=>false,fun _ _=>false,fun _ _=>false⟩
def HW:eD:=⟨some (.ext 11) :: some (.ext 12) :: vV 10,fun _ _ _=>false⟩
def DV:Bool:=ye kf HW ⟨0,false,.lf⟩
abbrev iD (P:Program) (w:World) (K:PySem.W.Frag) (mg:Str → Option Value) (base:Heap) (f:Addr) (cdv:Value) (A:Around) (outer:List Env) (s:Shared) (H:Hp) (E:XK):Cx:=(m8 fT P w K mg base ["_law_script","_law_town","_law_fair_so","_law_readers","_law_by_so","_law_desk","_law_first","_law_k","_law_told","_law_beside","_law_turn","_law_due"] "law" (ag (aF 105)) f cdv A outer s H E).nox
def bZ (i:Nat):Stmt:=(bd (aF 105)).getD i (.Pass ⟨0,0,0,0⟩)
theorem qo (W:Wr P w K mg base gy):Ha P w K mg base "_law_draw" 1 ["_law_script","_law_town","_law_many"] (uB K):=Fz W.d__law_draw W.M.toMods
theorem DW (W:Wr P w K mg base gy):∀ F,gy.dr F → ph K F:=fun F h=>by rw [W.hd] at h; exact h
variable {cdv:Value} {f:Addr} {outer:List Env} {E:XK} (W:Wr P w K mg base gy) (hr:bQ 14 (A.deeper (envOfC "law" (ag (aF 105)) s.heap.objs.size f cdv)))
include W hr
theorem JE:PS (iD P w K mg base f cdv A outer s H E) (bZ 1) (dh ⟨gy,E⟩ qa):=by
 have hu:=da hr
 (conv=>arg 2; whnf)
 with_reducible exact (ua 2 dw.nd (fG dG cG (ld (qo W) (DW W) (hr.mono (by decide)) (aa (uv 0) (aa (uv 1) (aa ap ae)))) ap (by trivial)))
theorem JF:PS (iD P w K mg base f cdv A outer s H E) (bZ 2) (dh ⟨gy,E⟩ qb):=by
 have hu:=da hr
 (conv=>arg 2; whnf)
 with_reducible exact (ua 3 dw.nd (bP ck bX ap (ld (qo W) (DW W) (hr.mono (by decide)) (aa (uv 0) (aa (uv 1) (aa ap ae))))))
theorem JG:PS (iD P w K mg base f cdv A outer s H E) (bZ 3) (dh ⟨gy,E⟩ qc):=by
 have hu:=da hr
 (conv=>arg 2; whnf)
 with_reducible exact (ua 4 dw.nd (a8 (cp (aa (aP 66) (aa (aP 45) ae))) (ld (qo W) (DW W) (hr.mono (by decide)) (aa (uv 0) (aa (uv 1) (aa ap ae)))) (by trivial)))
theorem JH:PS (iD P w K mg base f cdv A outer s H E) (bZ 4) (dh ⟨gy,E⟩ qd):=by
 have hu:=da hr
 (conv=>arg 2; whnf)
 with_reducible exact (dQ (dl (aJ (aa (DC (by decide) (nF W) (hr.mono (by decide)) fb (aa (aJ (aa (aP 0) ae)) ae) (fo (uv 2) jT)) (aa (ld (qo W) (DW W) (hr.mono (by decide)) (aa (uv 0) (aa (uv 1) (aa ap ae)))) ae))) (b9 (n:=2) (by rfl) (ao (ug 5 dw.nd) (ao (ug 6 dw.nd) bo)))))
theorem JI:PS (iD P w K mg base f cdv A outer s H E) (bZ 5) (dh ⟨gy,E⟩ qf):=by
 have hu:=da hr
 (conv=>arg 2; whnf)
 with_reducible exact (gj 40 PassesOwn.never (by rfl) (nZ (jb (by rfl) W.M.range (aa (bP ck bX (uv 3) ap) ae))) (ug 7 dw.nd) (af (ar (vZ (uY W) W.G.c1 (by decide +kernel) (hr.mono (by decide)) fb (uv 5)))
   (ai (ar (um (rG W) W.G.c1 hr (uv 5) (aa (uv 7) (aa (aP 0) ae)))))))
theorem JJ:PS (iD P w K mg base f cdv A outer s H E) (bZ 6) (dh ⟨gy,E⟩ qg):=by
 have hu:=da hr
 (conv=>arg 2; whnf)
 with_reducible exact (ar (gO (DU W) W.G.c1 (by decide +kernel) (hr.mono (by decide)) fb (uv 5) (aa ap (aa ap (aa (aP 63) (aa (aJ (aa (uv 6) (aa (bP ck bX (uv 6) ap) ae))) ae)))) (fo (uv 4) jT)))
theorem JK:PS (iD P w K mg base f cdv A outer s H E) (bZ 7) (dh ⟨gy,E⟩ qh):=by
 have hu:=da hr
 (conv=>arg 2; whnf)
 with_reducible exact (a5 (bv oj jP (gO (wJ W) W.G.c1 (by decide +kernel) (hr.mono (by decide)) fb (uv 5) (aa ap (aa ap (aa (aP 2) (aa (aJ (aa (bP ck bX (uv 6) ap) (aa iO ae))) ae)))) (fo (uv 4) (fo fF jT))) ap (by trivial)) (ai (aE fF)) aQ)
theorem JL:PS (iD P w K mg base f cdv A outer s H E) (bZ 8) (dh ⟨gy,E⟩ qi):=by
 have hu:=da hr
 (conv=>arg 2; whnf)
 with_reducible exact (gj 40 PassesOwn.never (by rfl) (nZ (jb (by rfl) W.M.range (aa (uv 3) ae))) (ug 7 dw.nd) (af (ua 8 dw.nd (gO (wJ W) W.G.c1 (by decide +kernel) (hr.mono (by decide)) fb (uv 5) (aa (bP ck bX (uv 7) ap) (aa ap (aa (aP 63) (aa (aJ (aa (bP ck bX (bP ck bX (uv 6) ap) (uv 7)) (aa (bP ck bX (bP ck bX (uv 6) ap) (uv 7)) ae))) ae)))) (fo (uv 4) (fo fF jT))))
   (ai (a5 (bv oj jP (uv 8) (de (cH (ca (uv 2))) (bP ck bX (uv 7) ap) iO) (by trivial)) (ai (aE fF)) aQ))))
theorem JM:PS (iD P w K mg base f cdv A outer s H E) (bZ 9) (dh ⟨gy,E⟩ qj):=by
 have hu:=da hr
 (conv=>arg 2; whnf)
 with_reducible exact (ua 9 dw.nd (gO (u3 W) W.G.c1 (by decide +kernel) (hr.mono (by decide)) fb (uv 5) (aa ap (aa ap (aa (aP 63) (aa (aJ (aa ap (aa (bP ck bX (uv 6) ap) ae))) ae)))) (fo (uv 4) jT)))
theorem HX:PS (iD P w K mg base f cdv A outer s H E) (bZ 10) (dh ⟨gy,E⟩ ml):=by
 have hu:=da hr
 (conv=>arg 2; whnf)
 with_reducible exact (a5 (PW.pt (mG (yT (cV (yh (uv 9)))) (jN (bv oj jP (bN d8 g8 (by rfl) W.M.len PySem.boot_len (aa (vZ (wK W) W.G.c1 (by decide +kernel) (hr.mono (by decide)) fb (uv 5)) ae)) (de (cH (ca (uv 2))) (bP ck bX (uv 3) ap) ap) (by trivial))))) (ai (aE fF)) aQ)
theorem HY:PS (iD P w K mg base f cdv A outer s H E) (bZ 11) (dh ⟨gy,E⟩ mm):=by
 have hu:=da hr
 (conv=>arg 2; whnf)
 with_reducible exact (a5 (PW.pt (tU (cH (ca (uv 2))) (nR (bv (xi (EG hr)) nY (gN 40 (by decide) (gz (by rfl) (by with_unfolding_all exact wM) (nZ (jb (by rfl) W.M.range (aa (uv 3) ae))) (fun _ _ _ _ _=>(ug 0 wM.nd)) (fun _ _ _ _ _=>cB) (fun _ _ _ _ _=>(um (yd W) W.G.c1 hr (uv 1) (aa (bP ck bX (uv 0) ap) ae))))) (bP tF n6 (cp (aa (aJ (aa ap ae)) ae)) (uv 3)) (by trivial))))) (ai (aE fF)) aQ)
theorem HZ:PS (iD P w K mg base f cdv A outer s H E) (bZ 12) (dh ⟨gy,E⟩ mn):=by
 have hu:=da hr
 (conv=>arg 2; whnf)
 with_reducible exact (ua 10 dw.nd (ld (qo W) (DW W) (hr.mono (by decide)) (aa (uv 0) (aa (uv 1) (aa ap ae)))))
theorem Ig:PS (iD P w K mg base f cdv A outer s H E) (bZ 13) (dh ⟨gy,E⟩ mq):=by
 have hu:=da hr
 (conv=>arg 2; whnf)
 with_reducible exact (a5 (bv dG cG (uv 10) ap (by trivial)) (af (ar (um (rH W) W.G.c1 hr (uv 5) (aa ap ae)))
   (ai (ua 11 dw.nd (de (fI (cH (ca (uv 2)))) (cp ae) (bP nN kU (cp (aa (aP 18) ae)) (bP tF n6 (cp (aa (aP 36) ae)) (uv 3))))))) (ai (a5 (bv dG cG (uv 10) ap (by trivial)) (af (ar (gO (jE W) W.G.c1 (by decide +kernel) (hr.mono (by decide)) fb (uv 5) (aa ap (aa ap (aa (aJ (aa (uv 6) (aa (bP ck bX (uv 6) ap) ae))) ae))) (fo (uv 4) jT)))
   (ai (ua 11 dw.nd (de (cH (ca (uv 2))) (bP nN kU (cp (aa (aP 36) ae)) (bP tF n6 (cp (aa (aP 74) ae)) (uv 3))) (cp ae))))) (af (ar (um (yc W) W.G.c1 hr (uv 5) (aa ap ae)))
   (ai (ua 11 dw.nd (de (cH (ca (uv 2))) (bP nN kU (cp (aa (aP 27) ae)) (bP tF n6 (cp (aa (aP 36) ae)) (uv 3))) (cp ae))))))))
theorem Ih:PS (iD P w K mg base f cdv A outer s H E) (bZ 14) (dh ⟨gy,E⟩ mr):=by
 have hu:=da hr
 (conv=>arg 2; whnf)
 with_reducible exact (a5 (PW.pt (tU (cH (ca (uv 2))) (nR (bv (xi (EG hr)) nY (gN 40 (by decide) (gz (by rfl) (by with_unfolding_all exact wN) (nZ (jb (by rfl) W.M.range (aa (bP ck bX (uv 3) ap) ae))) (fun _ _ _ _ _=>(ug 0 wN.nd)) (fun _ _ _ _ _=>cB) (fun _ _ _ _ _=>(um (d4 W) W.G.c1 hr (uv 1) (aa (uv 0) ae))))) (uv 11) (by trivial))))) (ai (aE fF)) aQ)
theorem Ii:PS (iD P w K mg base f cdv A outer s H E) (bZ 15) (dh ⟨gy,E⟩ mt):=by
 have hu:=da hr
 (conv=>arg 2; whnf)
 with_reducible exact (a5 (fI (cH (ca (uv 2)))) (ai (aE (fG dG cG (um (d4 W) W.G.c1 hr (uv 5) (aa ap ae)) (a8 (cp (aa (aP 18) (aa (aP 74) (aa (aP 27) ae)))) (uv 10) (by trivial)) (by trivial)))) aQ)
theorem Ij:PS (iD P w K mg base f cdv A outer s H E) (bZ 16) (dh ⟨gy,E⟩ mv):=by
 have hu:=da hr
 (conv=>arg 2; whnf)
 with_reducible exact (a5 (bv dG cG (uv 10) ap (by trivial)) (af (ar (gO (jE W) W.G.c1 (by decide +kernel) (hr.mono (by decide)) fb (uv 5) (aa ap (aa ap (aa (aJ (aa (bP ck bX (uv 6) ap) (aa (bP ck bX (uv 6) ap) ae))) ae))) (fo (uv 4) jT)))
   (ai (aE (tV (fG dG cG (um (d4 W) W.G.c1 hr (uv 5) (aa ap ae)) (aP 36) (by trivial)) (g6 (yO (fG dG cG (uv 3) ap (by trivial)) (g6 (fG dG cG (um (d4 W) W.G.c1 hr (uv 5) (aa ap ae)) (aP 74) (by trivial))))))))) aQ)
theorem Im:PS (iD P w K mg base f cdv A outer s H E) (bZ 17) (dh ⟨gy,E⟩ mw):=by
 have hu:=da hr
 (conv=>arg 2; whnf)
 with_reducible exact (aE (fG dG cG (bN d8 g8 (by rfl) W.M.len PySem.boot_len (aa (um (u6 W) W.G.c1 hr (uv 5) (aa (aP 0) ae)) ae)) (bP ck bX (uv 3) ap) (by trivial)))
theorem FI:iz (iD P w K mg base f cdv A outer s H E) [bZ 1,bZ 2,bZ 3,bZ 4,bZ 5,bZ 6,bZ 7,bZ 8,bZ 9,bZ 10,bZ 11,bZ 12,bZ 13,bZ 14,bZ 15,bZ 16,bZ 17] (dh ⟨gy,E⟩ ye) :=
 (af (JE W hr) (af (JF W hr) (af (JG W hr) (af (JH W hr) (af (JI W hr) (af (JJ W hr) (af (JK W hr) (af (JL W hr) (af (JM W hr) (af (HX W hr) (af (HY W hr) (af (HZ W hr) (af (Ig W hr) (af (Ih W hr) (af (Ii W hr) (af (Ij W hr) (ai (Im W hr))))))))))))))))))
end
def Io (gy:Gy) (a t r:Addr) (xs:List V) (H1:Hp):Fx where
 ext:=fun i=>if i < 11 then .ref (gy.fe i) else if i = 11 then .ref a else .ref t
 own:=fun b=>b = t ∨ b = r ∨ b = gy.tT ∨ (b = a ∧ Rd H1 a (.lst xs))
 J:=fun H=>(Rd H1 a (.lst xs) → H a = H1 a) ∧ nw H t r ∧ kO H gy.tT gy.tP gy.tQ
 st:=fun H H' ⟨j1,j2,j3⟩ k=>by
  refine ⟨fun z=>?_,?_,?_⟩
  ·have e:=j1 z
   rw [← e]
   rcases z with z | ⟨o,z⟩
   ·rw [z] at e; rw [e]; exact k a _ (.inl (.inr (.inr (.inr ⟨rfl,.inl z⟩)))) e
   ·rw [z] at e; rw [e]; exact k a _ (.inl (.inr (.inr (.inr ⟨rfl,.inr ⟨o,z⟩⟩)))) e
  ·obtain ⟨ne,⟨c,h1⟩,kvs,h2,h3⟩:=j2
   exact ⟨ne,⟨c,k _ _ (.inl (.inl rfl)) h1⟩,kvs,k _ _ (.inl (.inr (.inl rfl))) h2,h3⟩
  ·obtain ⟨ps,h1,h2,h3⟩:=j3
   refine ⟨ps,k _ _ (.inl (.inr (.inr (.inl rfl)))) h1,h2,?_⟩
   rcases h3 with h3 | ⟨c',h3,h4⟩
   ·exact .inl h3
   ·exact .inr ⟨c',h3,k _ _ (.inr ⟨_,rfl⟩) h4⟩
theorem DX {H1:Hp} {a:Addr} {o:HO} (z:Rd H1 a (.lst xs)) (e:H1 a = some o):(∀ kvs,o ≠ .dK kvs) ∧ ∀ ps,o ≠ .tbl ps:=by
 rcases z with z | ⟨o',z⟩
 ·rw [z] at e; cases e; exact ⟨fun _ w=>(nomatch w),fun _ w=>(nomatch w)⟩
 ·rw [z] at e; cases e; exact ⟨fun _ w=>(nomatch w),fun _ w=>(nomatch w)⟩
theorem u9 {H1:Hp} {a:Addr} (z:Rd H1 a (.lst xs)):∃ o,H1 a = some o:=by
 rcases z with z | ⟨o',z⟩
 ·exact ⟨_,z⟩
 ·exact ⟨_,z⟩
theorem JN {H H1:Hp} {a:Addr} (h:fu K H1 a xs) (j:Rd H1 a (.lst xs) → H a = H1 a):fu K H a xs:=by
 rcases h with h | h
 ·have e:=j h
  refine .inl ?_
  rcases h with h | ⟨o,h⟩
  ·exact .inl (e.trans h)
  ·exact .inr ⟨o,e.trans h⟩
 ·exact .inr h
theorem DY {a t r:Addr} {ns:List Int} {H1:Hp} (hS:fu K H1 a (List.map V.int ns)) (hn:ns.length ≤ 63):ph K (Io gy a t r (List.map V.int ns) H1):=by
 refine ⟨a,ns,t,r,rfl,rfl,.inl rfl,.inr (.inl rfl),fun H ⟨j1,j2,j3⟩=>⟨JN hS j1,hn,j2⟩,fun H H' ⟨j1,j2,j3⟩ T' sx=>⟨fun z=>?_,T',?_⟩⟩
 ·have e:=j1 z
  obtain ⟨o,ho⟩:=u9 z
  have nn:=DX z ho
  have ea:H a = some o:=e.trans ho
  rw [ho]
  exact sx a o ea (j2.notL ea nn.1).1 (j2.notL ea nn.1).2
 ·obtain ⟨ps,h1,h2,h3⟩:=j3
  refine ⟨ps,sx _ _ h1 (j2.notL h1 fun _ z=>nomatch z).1 (j2.notL h1 fun _ z=>nomatch z).2,h2,?_⟩
  rcases h3 with h3 | ⟨c',h3,h4⟩
  ·exact .inl h3
  ·exact .inr ⟨c',h3,sx _ _ h4 (j2.notL h4 fun _ z=>nomatch z).1 (j2.notL h4 fun _ z=>nomatch z).2⟩
theorem FJ {E:XK} {a t r:Addr} {ns:List Int} {H1:Hp} (hS:fu K H1 a (List.map V.int ns)) (hn:ns.length ≤ 63) (hd:∀ F,ph K F → gy.dr F):Jn ⟨gy,E⟩ (Io gy a t r (List.map V.int ns) H1):=by
 refine ⟨hd _ (DY hS hn),.inr (.inr (.inl rfl)),fun H ⟨j1,j2,j3⟩=>j3,fun H H' ⟨j1,j2,j3⟩ lm k=>⟨fun z=>?_,?_,lm⟩⟩
 ·have e:=j1 z
  obtain ⟨o,ho⟩:=u9 z
  have nn:=DX z ho
  have ea:H a = some o:=e.trans ho
  obtain ⟨ps,h1,_⟩:=j3
  rw [ho]
  exact k a o (fun w=>by rw [w,h1] at ea; cases ea; exact nn.2 _ rfl) ea
 ·obtain ⟨ps,h0,_⟩:=j3
  obtain ⟨ne,⟨c,h1⟩,kvs,h2,h3⟩:=j2
  exact ⟨ne,⟨c,k _ _ (fun w=>by rw [w,h0] at h1; cases h1) h1⟩,kvs,k _ _ (fun w=>by rw [w,h0] at h2; cases h2) h2,h3⟩
def DZ (K:PySem.W.Frag) (T:Addr):Sp:=fun vs H Q _=>∃ a ns,vs = [.ref a] ∧ fu K H a (List.map V.int ns) ∧ ns.length ≤ 63 ∧ kO H T xR ux ∧ ∀ H',Q (.bl true) H'
theorem A8 {H H':Hp} {T:Addr} {lp:Pos} {q:Str} (h:kO H T lp q) (s:∀ b o,H b = some o → H' b = some o):kO H' T lp q:=by
 obtain ⟨ps,h1,h2,h3⟩:=h
 refine ⟨ps,s _ _ h1,h2,?_⟩
 rcases h3 with h3 | ⟨c',h3,h4⟩
 ·exact .inl h3
 ·exact .inr ⟨c',h3,s _ _ h4⟩
section
theorem Ip {f:Addr} (W:Wr P w K mg base gy) (F:Fun K "law" "law" (aF 105) f fd) (hb:DV = true):db P w K mg base fT 15 f fd ["_law_script"] (DZ K gy.tT):=by
 have hd:=W.hd
 have hP:=W.hP
 have hQ:=W.hQ
 refine F.ok dw (fun vs H Q E h=>?_) (fun cdv A outer s H vs Q E hr h=>?_)
 ·obtain ⟨a,ns,rfl,_⟩:=h
  rfl
 ·obtain ⟨a,ns,rfl,hS,hns,lam,k⟩:=h
  have hu:=da hr
  refine ⟨GD (ki (mz zy [] E0 oo) (ig 1)) (dh ⟨gy,E⟩ ye),?_,?_⟩
  ·have rest:=FI (E:=E) (H:=H) (outer:=outer) W hr
   (conv=>arg 2; whnf)
   exact dE (lG dw.nd (by with_unfolding_all rfl) (by with_unfolding_all exact (Or.inl rfl)) (EF (DH W.d__law_begun W.M.toMods) (hr.mono (by decide)))) rest
  ·simp only [yK,yL,B4,yM,List.nil_append]
   refine ⟨rfl,fun t r H1 T1 s1 e1 e2=>?_⟩
   simp only [vD]
   have hS1:fu K H1 a (List.map V.int ns):=by
    rcases hS with (h | ⟨o,h⟩) | h
    ·exact .inl (.inl (s1 _ _ h))
    ·exact .inl (.inr ⟨o,s1 _ _ h⟩)
    ·exact .inr h
   have lam1:kO H1 gy.tT gy.tP gy.tQ:=by rw [hP,hQ]; exact A8 lam s1
   refine ⟨Io gy a t r (List.map V.int ns) H1,none,[],⟨0,false,.lf⟩,HW,kf,?_,⟨?_,?_⟩,hb,?_,?_,?_,?_⟩
   ·refine ⟨rfl,rfl,fun _ h=>(nomatch h),List.nodup_nil,fun i c e=>by simp at e,fun _ h=>(nomatch h),fun i hi=>if_pos hi,fun b w=>?_,⟨fun _=>rfl,T1,lam1⟩,FJ hS1 hns (fun F h=>by rw [hd]; exact h)⟩
    obtain ⟨_,⟨c,t1⟩,kvs,t2,_⟩:=T1
    obtain ⟨ps,t3,_⟩:=lam1
    rcases w with rfl | rfl | rfl | ⟨rfl,z⟩
    ·rw [t1]; simp
    ·rw [t2]; simp
    ·rw [t3]; simp
    ·obtain ⟨o,ho⟩:=u9 z
     rw [ho]; simp
   ·exact .cons rfl (.cons rfl (lY 10))
   ·intro _ _ _ _ _ _ _ _ _ _ h; cases h
   ·intro _ _ _ _ _ _ _ _ _ h; cases h
   ·intro y' ρ' S' H' av v st C rv h
    cases av with
    | bl b =>
     cases b with
     | true =>
      cases (show v = .bl true from rv)
      exact k H'
     | false=>cases h
    | _=>cases h
   ·intro _ _ _ _ _ _ _ _ _ h; cases h
   ·intro _ _ _ _ _ _ _ _ _ h; cases h
end
@[reducible] def KM (K:PySem.W.Frag) (T C0 C1 e0 e1 e2 e3 e4 e5 e6 e7 e8 e9 e10:Addr):Gy where
 cl:=fun c=>match c with
  | 0=>C0
  | _=>C1
 xc:=fun _=>0
 fe:=fun j=>match j with
  | 0=>e0
  | 1=>e1
  | 2=>e2
  | 3=>e3
  | 4=>e4
  | 5=>e5
  | 6=>e6
  | 7=>e7
  | 8=>e8
  | 9=>e9
  | 10=>e10
  | _=>0
 tT:=T
 tP:=xR
 tQ:=ux
 dr:=ph K
theorem JO {F:Nat → Prop} (a:F 0) (b:F 1):∀ c,c < 2 → F c
 | 0,_=>a
 | 1,_=>b
theorem JP {C:Addr} {h:Int} {t t1:Tok} {x:Str} (hx:bf[15]? = some x) (D:xS K C "attach" "Desk.attach" (aA (aF 101) 4) #[⟨h,.str "mode" t,.str x t1⟩]):∃ h t x t1,bf[15]? = some x ∧ xS K C "attach" "Desk.attach" (aA (aF 101) 4) #[⟨h,.str "mode" t,.str x t1⟩]:=⟨h,t,x,t1,hx,D⟩
theorem JQ {C:Addr} {h h1:Int} {t t1:Tok} {v:Value} (D:xS K C "lock" "Desk.lock" (aA (aF 101) 9) #[⟨h,.str "by" t,v⟩,⟨h1,.str "wait" t1,.bool false⟩]):∃ h t v h1 t1,xS K C "lock" "Desk.lock" (aA (aF 101) 9) #[⟨h,.str "by" t,v⟩,⟨h1,.str "wait" t1,.bool false⟩]:=⟨h,t,v,h1,t1,D⟩
theorem zE {f:Str} {C0 C1:Addr} (a:PySem.W.findIn K (.ref C0) f = some none) (b:PySem.W.findIn K (.ref C1) f = some none) (e0:gy.cl 0 = C0) (e1:gy.cl 1 = C1):∀ c,c < 2 → ci K (gy.cl c) f:=by
 subst e0 e1
 exact JO a b
theorem FK {l:PySem.W.OpenLaw} {h:Heap} {fa fL:Addr} {oc kV doc pm cdv ct:Value} {od an:Option Addr} (X:K.In h) (G:h.Ns mainGlobals mg) (hfa:mg "law" = some (.ref fa)) (W:KL l.prog w K mg gy) (hT:K.lookup gy.tT = none) 
  (aL:PySem.W.nsIn K mainGlobals "law" = some (some (.ref fL))) (lL:K.lookup fL = some ⟨oc,od,.func (PySem.W.fnOf "law" "law" (bV (aF 105)) (bd (aF 105)) (ag (aF 105)) .none kV doc pm an cdv ct),osl⟩) (cL:PySem.W.codeIn K cdv "law" = true) (kL:PySem.W.keepIn K (.ref fL) = true) (hb:DV = true) :
  K.lookup gy.tT = none ∧ (∃ c,PySem.W.codeHdIn K c gy.tT = true) ∧ ∃ fd:FuncData,(∀ (s:Shared) (v:Value),BindsTo s fd ⟨[v],[]⟩ [("_law_script",v)]) ∧ ∀ base:Heap,K.In base → base.Ns mainGlobals mg → base.BuiltinsAt mg gy.tT → db l.prog w K mg base fT 15 fa fd ["_law_script"] (DZ K gy.tT):=by
 have e:=hfa.symm.trans (PySem.W.mg_of X G aL)
 cases e
 obtain ⟨cc,_,hd⟩:=W.d_lot_of
 exact ⟨hT,⟨cc,hd⟩,PySem.W.fnOf "law" "law" (bV (aF 105)) (bd (aF 105)) (ag (aF 105)) .none kV doc pm an cdv ct,fun s v=>.of_eq rfl,fun base _ _ hB=>Ip ⟨W,hB⟩ (oE lL cL kL) hb⟩
end RB
namespace RB
@[reducible] def ie:BS:=(aq qc (aq qd (aq qf (aq qg (aq qh (aq qi (aq qj (aq ml (aq mm (aq mn (aq mq (aq mr (aq mt (aq mv mw))))))))))))))
def iy (b:Bool) (r:Int):eD:=⟨some (.ext 11) :: some (.ext 12) :: some (.bl b) :: some (.int false r r) :: vV 8,fun _ _ _=>false⟩
def A9 (a b:Bool):Bool:=match a with
 | true=>b
 | false=>false
theorem lD {a b:Bool} (h1:a = true) (h2:b = true):A9 a b = true:=by rw [h1,h2]; rfl
theorem Ba (k:BS):aq qa (aq qb k) kf HW ⟨0,false,.lf⟩ =
  A9 (A9 (A9 (k kf (iy true 1) ⟨0,false,.lf⟩) (k kf (iy true 2) ⟨0,false,.lf⟩)) (k kf (iy true 3) ⟨0,false,.lf⟩))
   (A9 (A9 (k kf (iy false 1) ⟨0,false,.lf⟩) (k kf (iy false 2) ⟨0,false,.lf⟩)) (k kf (iy false 3) ⟨0,false,.lf⟩)):=by kernel_rfl
set_option maxHeartbeats 0 in
theorem D0:ie kf (iy true 1) ⟨0,false,.lf⟩ = true:=by decide +kernel
set_option maxHeartbeats 0 in
theorem D1:ie kf (iy true 2) ⟨0,false,.lf⟩ = true:=by decide +kernel
set_option maxHeartbeats 0 in
theorem D2:ie kf (iy true 3) ⟨0,false,.lf⟩ = true:=by decide +kernel
set_option maxHeartbeats 0 in
theorem D3:ie kf (iy false 1) ⟨0,false,.lf⟩ = true:=by decide +kernel
set_option maxHeartbeats 0 in
theorem D4:ie kf (iy false 2) ⟨0,false,.lf⟩ = true:=by decide +kernel
set_option maxHeartbeats 0 in
theorem D5:ie kf (iy false 3) ⟨0,false,.lf⟩ = true:=by decide +kernel
set_option maxHeartbeats 0 in
theorem yf:DV = true:=(Ba ie).trans (lD (lD (lD D0 D1) D2) (lD (lD D3 D4) D5))
end RB
open PySem PySem.W PyProof.Rows
set_option maxHeartbeats 0 in
theorem PySem.Challenge.cw_lockstretch_k42_fair_by_hand_holds : PySem.Challenge.rw_lockstretch_k42_fair_by_hand.Holds := by
 w_on
 refine holds_law OH.said fun said => ?_
 refine holds_open (r := PySem.Challenge.rw_lockstretch_k42_fair_by_hand.row) (q := OH.qv) (loose := OH.ls) (Xt := OH.Xt) (XP := XL OH.qv []) (Yf := OH.Hk.obs) (Ya := OH.Hk.val) (YP := OH.Hk.says) (d := OH.dL) (kwd := []) (N := 20000) OH.left OH.Hk.of OH.Hk.keeps (fun s e => xl_of s (Bool.and_eq_true_iff.mp e).1) XL.keeps OH.hd1 OH.hd2 OH.hd3 (fun s e => recFacts_of (Bool.and_eq_true_iff.mp e).2) OH.hd4 said OH.hd5 OH.hd6 ?hw ?hc
 case hw => w_witness2
 refine L2.Ca (n := 63) (k := 15) (x := "_law_script") (T := 213) (l := PySem.Challenge.rw_lockstretch_k42_fair_by_hand) (sp := fun w => RB.DZ _ 213) rfl (by decide) rfl ⟨rfl, by decide, by decide⟩ (fun w h Y => ⟨PySem.W.km_in_of Y, PySem.W.km_tabs_of Y _ (List.Mem.head _)⟩) ?F (fun _ _ a ns hl hS hT => ⟨a, ns, rfl, hS, hl, ⟨#[], hT, trivial, .inl rfl⟩, fun _ => rfl⟩)
 case F =>
  intro w mg fa h KX G hmg
  k_fill
  refine' RB.FK (l := PySem.Challenge.rw_lockstretch_k42_fair_by_hand) (gy := RB.KM _ 213 723 985 602 609 616 623 630 637 644 651 658 665 672) KX G hmg (RB.KL.mk (RB.aI KX G ?_ ?_ ?_ ?_)
   (RB.aI KX G ?_ ?_ ?_ ?_)
   (RB.aI KX G ?_ ?_ ?_ ?_)
   (RB.aI KX G ?_ ?_ ?_ ?_)
   (RB.aI KX G ?_ ?_ ?_ ?_)
   (RB.aI KX G ?_ ?_ ?_ ?_)
   (RB.aI KX G ?_ ?_ ?_ ?_)
   (RB.aI KX G ?_ ?_ ?_ ?_)
   (RB.aI KX G ?_ ?_ ?_ ?_)
   (RB.aI KX G ?_ ?_ ?_ ?_)
   (RB.aI KX G ?_ ?_ ?_ ?_)
   (RB.aI KX G ?_ ?_ ?_ ?_)
   (RB.aI KX G ?_ ?_ ?_ ?_)
   (RB.aI KX G ?_ ?_ ?_ ?_)
   (RB.aI KX G ?_ ?_ ?_ ?_)
   (RB.aI KX G ?_ ?_ ?_ ?_)
   (RB.aI KX G ?_ ?_ ?_ ?_)
   (RB.aI KX G ?_ ?_ ?_ ?_)
   (RB.aI KX G ?_ ?_ ?_ ?_)
   (RB.aI KX G ?_ ?_ ?_ ?_)
   (RB.aI KX G ?_ ?_ ?_ ?_)
   (RB.aI KX G ?_ ?_ ?_ ?_)
   (RB.aI KX G ?_ ?_ ?_ ?_)
   (RB.aI KX G ?_ ?_ ?_ ?_)
   (RB.aI KX G ?_ ?_ ?_ ?_)
   (RB.aI KX G ?_ ?_ ?_ ?_)
   (RB.aI KX G ?_ ?_ ?_ ?_)
   (RB.aI KX G ?_ ?_ ?_ ?_)
   (RB.aI KX G ?_ ?_ ?_ ?_)
   (RB.aI KX G ?_ ?_ ?_ ?_)
   (RB.aI KX G ?_ ?_ ?_ ?_)
   (RB.aI KX G ?_ ?_ ?_ ?_)
   (RB.aI KX G ?_ ?_ ?_ ?_)
   (RB.aI KX G ?_ ?_ ?_ ?_)
   (RB.aI KX G ?_ ?_ ?_ ?_)
   (RB.aI KX G ?_ ?_ ?_ ?_)
   (RB.aI KX G ?_ ?_ ?_ ?_)
   (RB.aI KX G ?_ ?_ ?_ ?_)
   (RB.aI KX G ?_ ?_ ?_ ?_)
   (RB.aI KX G ?_ ?_ ?_ ?_)
   (RB.aI KX G ?_ ?_ ?_ ?_)
   (RB.aI KX G ?_ ?_ ?_ ?_)
   (RB.aI KX G ?_ ?_ ?_ ?_)
   (RB.aI KX G ?_ ?_ ?_ ?_)
   (RB.aI KX G ?_ ?_ ?_ ?_)
   (RB.aI KX G ?_ ?_ ?_ ?_)
   (RB.aI KX G ?_ ?_ ?_ ?_)
   (RB.aI KX G ?_ ?_ ?_ ?_)
   (RB.aI KX G ?_ ?_ ?_ ?_)
   (RB.aI KX G ?_ ?_ ?_ ?_)
   (RB.aI KX G ?_ ?_ ?_ ?_)
   (RB.aI KX G ?_ ?_ ?_ ?_)
   (RB.aI KX G ?_ ?_ ?_ ?_)
   (RB.aI KX G ?_ ?_ ?_ ?_)
   (RB.aI KX G ?_ ?_ ?_ ?_)
   (RB.aI KX G ?_ ?_ ?_ ?_)
   (RB.aI KX G ?_ ?_ ?_ ?_)
   (RB.aI KX G ?_ ?_ ?_ ?_)
   (RB.aI KX G ?_ ?_ ?_ ?_)
   (RB.aI KX G ?_ ?_ ?_ ?_)
   (RB.aI KX G ?_ ?_ ?_ ?_)
   (RB.aI KX G ?_ ?_ ?_ ?_)
   (RB.aI KX G ?_ ?_ ?_ ?_)
   (RB.aI KX G ?_ ?_ ?_ ?_)
   ⟨_, RB.Fu KX G ?_ ?_ ?_ ?_, ?hd1⟩
   (RB.dS (C := 723) ?_ ?_ ?_ ?_ ?_)
   (RB.dS (C := 723) ?_ ?_ ?_ ?_ ?_)
   (RB.dS (C := 723) ?_ ?_ ?_ ?_ ?_)
   (RB.dS (C := 985) ?_ ?_ ?_ ?_ ?_)
   (RB.dS (C := 985) ?_ ?_ ?_ ?_ ?_)
   (RB.dS (C := 985) ?_ ?_ ?_ ?_ ?_)
   (RB.dS (C := 985) ?_ ?_ ?_ ?_ ?_)
   (RB.dS (C := 985) ?_ ?_ ?_ ?_ ?_)
   (RB.dS (C := 985) ?_ ?_ ?_ ?_ ?_)
   (RB.dS (C := 985) ?_ ?_ ?_ ?_ ?_)
   (RB.dS (C := 985) ?_ ?_ ?_ ?_ ?_)
   (RB.dS (C := 985) ?_ ?_ ?_ ?_ ?_)
   (RB.dS (C := 985) ?_ ?_ ?_ ?_ ?_)
   (RB.dS (C := 985) ?_ ?_ ?_ ?_ ?_)
   (RB.JP ?hx (RB.zu (C := 985) ?_ ?_ ?_ ?_ ?_ ?_))
   (RB.JQ (RB.zu (C := 985) ?_ ?_ ?_ ?_ ?_ ?_))
   (RB.DD (C := 723) ?_ ?_ ?_ ?_ ?_ ?_ ?_)
   (RB.DD (C := 985) ?_ ?_ ?_ ?_ ?_ ?_ ?_)
   (PySem.W.mg_of KX G ?g_Tables)
   (PySem.W.mg_of KX G ?g_Desk)
   (PySem.W.mg_of KX G ?_)
   (PySem.W.mg_of KX G ?_)
   (PySem.W.mg_of KX G ?_)
   (PySem.W.mg_of KX G ?_)
   (PySem.W.mg_of KX G ?_)
   (PySem.W.mg_of KX G ?_)
   ⟨⟨?m_len, ?m_isinstance, ?m_int, ?m_bool, ?m_tuple, ?m_list, ?m_range, ?m_zip, ?m_min, ?m_max, ?m_sorted, ?m_set⟩, ?m_any, ?m_all⟩
   ⟨RB.JO (show L2.qq _ 723 from ⟨?_, ?_, ?_, ?_⟩) (show L2.qq _ 985 from ⟨?_, ?_, ?_, ?_⟩), RB.zE (C0 := 723) (C1 := 985) ?_ ?_ rfl rfl, RB.zE (C0 := 723) (C1 := 985) ?_ ?_ rfl rfl, RB.zE (C0 := 723) (C1 := 985) ?_ ?_ rfl rfl, RB.zE (C0 := 723) (C1 := 985) ?_ ?_ rfl rfl, RB.zE (C0 := 723) (C1 := 985) ?_ ?_ rfl rfl, RB.zE (C0 := 723) (C1 := 985) ?_ ?_ rfl rfl, RB.zE (C0 := 723) (C1 := 985) ?_ ?_ rfl rfl, RB.zE (C0 := 723) (C1 := 985) ?_ ?_ rfl rfl, RB.zE (C0 := 723) (C1 := 985) ?_ ?_ rfl rfl, RB.zE (C0 := 723) (C1 := 985) ?_ ?_ rfl rfl, RB.zE (C0 := 723) (C1 := 985) ?_ ?_ rfl rfl, RB.zE (C0 := 723) (C1 := 985) ?_ ?_ rfl rfl, RB.zE (C0 := 723) (C1 := 985) ?_ ?_ rfl rfl, RB.zE (C0 := 723) (C1 := 985) ?_ ?_ rfl rfl⟩
   ⟨RB.uy KX G ?_ ?_ ?tc_KINDS ?ts_KINDS ?tp_KINDS,
   RB.uy KX G ?_ ?_ ?tc_HOLDERS ?ts_HOLDERS ?tp_HOLDERS,
   RB.uy KX G ?_ ?_ ?tc_MODES ?ts_MODES ?tp_MODES,
   RB.zw (es := [("shared", _, .str "write" _), ("alone", _, .str "read" _)]) KX G ?_ ?_ ?te_WM ?tn_WM ?tp_WM,
   RB.zw (es := [("begin", _, .ref _), ("attach", _, .ref _), ("dup", _, .ref _), ("close", _, .ref _), ("fork", _, .ref _), ("end", _, .ref _), ("lock", _, .ref _), ("unlock", _, .ref _), ("cancel", _, .ref _), ("lock_whole", _, .ref _), ("unlock_whole", _, .ref _)]) KX G ?_ ?_ ?te_DE ?tn_DE ?tp_DE⟩
   rfl
   rfl
   rfl
   (show mainGlobals ≠ 213 by decide))
   ?hT ?_ ?_ ?_ ?_ RB.yf
  (case g_Tables => k_is); (case g_Desk => k_is)
  all_goals try k_is
  all_goals try k_is
  all_goals try (refine PySem.W.mg_none_of KX G ?_; k_is)
  (case tc_KINDS => exact rfl); (case ts_KINDS => decide); (case tp_KINDS => exact (.cons ⟨_, _, rfl, rfl⟩ (.cons ⟨_, _, rfl, rfl⟩ .nil)))
  (case tc_HOLDERS => exact rfl); (case ts_HOLDERS => decide); (case tp_HOLDERS => exact (.cons ⟨_, _, rfl, rfl⟩ (.cons ⟨_, _, rfl, rfl⟩ .nil)))
  (case tc_MODES => exact rfl); (case ts_MODES => decide); (case tp_MODES => exact (.cons ⟨_, _, rfl, rfl⟩ (.cons ⟨_, _, rfl, rfl⟩ (.cons ⟨_, _, rfl, rfl⟩ .nil))))
  (case te_WM => exact rfl); (case tn_WM => decide +kernel); (case tp_WM => exact (.cons ⟨⟨_, rfl, rfl⟩, ⟨_, _, rfl, rfl⟩⟩ (.cons ⟨⟨_, rfl, rfl⟩, ⟨_, _, rfl, rfl⟩⟩ .nil)))
  (case te_DE => exact rfl); (case tn_DE => decide +kernel); (case tp_DE => exact (.cons ⟨⟨_, rfl, rfl⟩, ⟨by decide, rfl⟩⟩ (.cons ⟨⟨_, rfl, rfl⟩, ⟨by decide, rfl⟩⟩ (.cons ⟨⟨_, rfl, rfl⟩, ⟨by decide, rfl⟩⟩ (.cons ⟨⟨_, rfl, rfl⟩, ⟨by decide, rfl⟩⟩ (.cons ⟨⟨_, rfl, rfl⟩, ⟨by decide, rfl⟩⟩ (.cons ⟨⟨_, rfl, rfl⟩, ⟨by decide, rfl⟩⟩ (.cons ⟨⟨_, rfl, rfl⟩, ⟨by decide, rfl⟩⟩ (.cons ⟨⟨_, rfl, rfl⟩, ⟨by decide, rfl⟩⟩ (.cons ⟨⟨_, rfl, rfl⟩, ⟨by decide, rfl⟩⟩ (.cons ⟨⟨_, rfl, rfl⟩, ⟨by decide, rfl⟩⟩ (.cons ⟨⟨_, rfl, rfl⟩, ⟨by decide, rfl⟩⟩ .nil))))))))))))
  (case hx => exact rfl); (case hd1 => first | kernel_rfl | exact rfl); (case hT => first | kernel_rfl | exact rfl)


